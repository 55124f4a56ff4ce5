import unittest

from tests.helper import (
    BILLION, DOWN, LOCK, MERIT, NOMINATE, RESERVE, SETTLE, UNMATCHED, UNRESERVE, UP, HouseCase, house,
)


class Merit(HouseCase):
    def assert_merit(self, calls, listed):
        self.assert_tail(calls + [(MERIT, 5)], [[0, len(listed)] + [number for one in listed for number in one]])

    def test_none(self):
        self.assert_merit(house(), [])
        self.assert_merit(house(0), [])
        self.assert_merit(house() + [(RESERVE, 4, 1, UP, 1, 2), (RESERVE, 6, 1, UP, 1, 2)], [])

    def test_one(self):
        self.assert_merit(house() + [(RESERVE, 5, 3, DOWN, 8, -2)], [(1, 3, 0, 8, -2)])
        self.assert_merit(house() + [(RESERVE, 5, 2, UP, BILLION, 1000000)], [(1, 2, 1, BILLION, 1000000)])

    def test_those_up_by_price_from_the_least_up(self):
        calls = [(RESERVE, 5, 1, UP, 4, price) for price in (7, -3, 9, 0)]
        self.assert_merit(house() + calls, [(2, 1, 1, 4, -3), (4, 1, 1, 4, 0), (1, 1, 1, 4, 7), (3, 1, 1, 4, 9)])

    def test_those_down_by_price_from_the_greatest_down(self):
        calls = [(RESERVE, 5, 1, DOWN, 4, price) for price in (7, -3, 9, 0)]
        self.assert_merit(house() + calls, [(3, 1, 0, 4, 9), (1, 1, 0, 4, 7), (4, 1, 0, 4, 0), (2, 1, 0, 4, -3)])

    def test_up_ahead_of_down(self):
        calls = [(RESERVE, 5, 1, DOWN, 4, 1), (RESERVE, 5, 2, UP, 6, 9), (RESERVE, 5, 3, DOWN, 5, 20),
                 (RESERVE, 5, 1, UP, 7, -8)]
        self.assert_merit(house() + calls, [(4, 1, 1, 7, -8), (2, 2, 1, 6, 9), (3, 3, 0, 5, 20), (1, 1, 0, 4, 1)])

    def test_equal_prices_by_number(self):
        calls = [(RESERVE, 5, 3, UP, 9, 6), (RESERVE, 5, 2, DOWN, 8, 6), (RESERVE, 5, 1, UP, 7, 6),
                 (RESERVE, 5, 3, DOWN, 6, 6), (RESERVE, 5, 2, UP, 5, 6), (RESERVE, 5, 1, DOWN, 4, 6)]
        self.assert_merit(house() + calls, [(1, 3, 1, 9, 6), (3, 1, 1, 7, 6), (5, 2, 1, 5, 6),
                                            (2, 2, 0, 8, 6), (4, 3, 0, 6, 6), (6, 1, 0, 4, 6)])

    def test_numbers_that_went(self):
        calls = house() + [(RESERVE, 5, 1, UP, 4, price) for price in (7, 3, 7)]
        self.assert_merit(calls + [(UNRESERVE, 1)], [(2, 1, 1, 4, 3), (3, 1, 1, 4, 7)])
        self.assert_merit(calls + [(UNRESERVE, 3), (RESERVE, 5, 2, UP, 4, 3)],
                          [(2, 1, 1, 4, 3), (4, 2, 1, 4, 3), (1, 1, 1, 4, 7)])
        self.assert_merit(calls + [(UNRESERVE, 3), (UNRESERVE, 1), (UNRESERVE, 2)], [])

    def test_only_those_of_the_quarter_with_their_numbers_over_all(self):
        calls = [(RESERVE, 4, 1, UP, 1, 1), (RESERVE, 5, 1, UP, 2, 3), (RESERVE, 6, 1, UP, 1, 1)]
        self.assert_merit(house() + calls, [(2, 1, 1, 2, 3)])

    def test_64_of_them_in_a_locked_quarter(self):
        calls = house() + [(RESERVE, 5, 1, UP, 1, 64 - place) for place in range(64)] + [(SETTLE, 5), (LOCK, 5)]
        self.assert_merit(calls, [(64 - place, 1, 1, 1, 1 + place) for place in range(64)])


class Unmatched(HouseCase):
    def assert_unmatched(self, nominations, listed):
        calls = house(4) + [(NOMINATE, hand, to, 5, amount) for hand, to, amount in nominations]
        self.assert_tail(calls + [(UNMATCHED, 1, 5)],
                         [[0, len(listed)] + [number for one in listed for number in one]])

    def test_nothing_nominated(self):
        self.assert_unmatched([], [])

    def test_not_answered(self):
        self.assert_unmatched([(1, 2, 7)], [(2, 7, 0)])
        self.assert_unmatched([(1, 2, -7)], [(2, -7, 0)])

    def test_answered_in_part(self):
        self.assert_unmatched([(1, 2, 7), (2, 1, -3)], [(2, 7, 3)])
        self.assert_unmatched([(1, 2, -7), (2, 1, 3)], [(2, -7, -3)])

    def test_answered_whole(self):
        self.assert_unmatched([(1, 2, 7), (2, 1, -7)], [])
        self.assert_unmatched([(1, 2, -7), (2, 1, 7)], [])

    def test_answered_by_more_than_it_nominated(self):
        self.assert_unmatched([(1, 2, 7), (2, 1, -9)], [])
        self.assert_unmatched([(1, 2, -7), (2, 1, 9)], [])

    def test_the_same_sign_on_both_sides(self):
        self.assert_unmatched([(1, 2, 7), (2, 1, 7)], [(2, 7, 0)])
        self.assert_unmatched([(1, 2, -7), (2, 1, -3)], [(2, -7, 0)])

    def test_only_the_other_one_nominated(self):
        self.assert_unmatched([(2, 1, 7), (3, 1, -7)], [])

    def test_nominated_and_taken_back(self):
        self.assert_unmatched([(1, 2, 7), (1, 2, 0)], [])
        self.assert_unmatched([(1, 2, 7), (2, 1, -7), (2, 1, 0)], [(2, 7, 0)])

    def test_in_order_of_number_in_whatever_order_they_were_told(self):
        self.assert_unmatched([(1, 4, 9), (1, 2, -8), (1, 3, 7), (4, 1, -5)], [(2, -8, 0), (3, 7, 0), (4, 9, 5)])
        self.assert_unmatched([(1, 4, 9), (1, 3, 7), (1, 2, -8), (3, 1, -7)], [(2, -8, 0), (4, 9, 0)])

    def test_only_its_own_in_this_quarter(self):
        calls = house(4) + [(NOMINATE, 1, 2, 6, 7), (NOMINATE, 3, 2, 5, 7), (NOMINATE, 1, 4, 5, 3),
                            (NOMINATE, 4, 1, 6, -3)]
        self.assert_tail(calls + [(UNMATCHED, 1, 5), (UNMATCHED, 3, 5), (UNMATCHED, 1, 6), (UNMATCHED, 4, 5),
                                  (UNMATCHED, 4, 6)],
                         [[0, 1, 4, 3, 0], [0, 1, 2, 7, 0], [0, 1, 2, 7, 0], [0, 0], [0, 1, 1, -3, 0]])

    def test_31_of_them(self):
        calls = house(32) + [(NOMINATE, 32, other, 5, BILLION) for other in reversed(range(1, 32))]
        listed = [number for other in range(1, 32) for number in (other, BILLION, 0)]
        self.assert_tail(calls + [(UNMATCHED, 32, 5), (UNMATCHED, 1, 5)], [[0, 31] + listed, [0, 0]])

    def test_no_such_hand(self):
        self.assert_refused(house(4) + [(NOMINATE, 1, 2, 5, 7)], (UNMATCHED, 5, 5), -5, [(UNMATCHED, 1, 5)])


if __name__ == "__main__":
    unittest.main()
