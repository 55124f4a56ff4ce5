import unittest

from tests.helper import BILLION, MARKET, MATCHED, METER, NOMINATE, POSITION, RESERVE, UP, HouseCase, house


def nominated(there, back):
    return house() + [(NOMINATE, 1, 2, 5, there), (NOMINATE, 2, 1, 5, back)]


class Matched(HouseCase):
    def test_the_lesser_of_both(self):
        for there, back, expected in [
            (4, -4, 4), (4, -3, 3), (3, -4, 3), (1, -1, 1), (-4, 4, -4), (-4, 3, -3), (-3, 4, -3),
            (BILLION, -BILLION, BILLION),
        ]:
            with self.subTest(there=there, back=back):
                self.assert_tail(nominated(there, back) + [(MATCHED, 1, 2, 5), (MATCHED, 2, 1, 5)],
                                 [[0, expected], [0, -expected]])

    def test_nothing_is_matched_where_both_give_or_both_take_or_one_said_nothing(self):
        for there, back in [(4, 4), (-4, -4), (4, 0), (0, 4), (-4, 0), (0, -4), (0, 0), (4, 3), (-3, -4)]:
            with self.subTest(there=there, back=back):
                self.assert_tail(nominated(there, back) + [(MATCHED, 1, 2, 5), (MATCHED, 2, 1, 5)], [[0, 0], [0, 0]])

    def test_only_these_two_in_this_quarter(self):
        self.assert_tail(nominated(4, -4) + [(MATCHED, 1, 3, 5), (MATCHED, 3, 2, 5), (MATCHED, 1, 2, 6)],
                         [[0, 0]] * 3)
        self.assert_tail(house() + [(NOMINATE, 1, 2, 5, 4), (NOMINATE, 2, 1, 6, -4), (MATCHED, 1, 2, 5)], [[0, 0]])
        self.assert_tail(house() + [(NOMINATE, 1, 2, 5, 4), (NOMINATE, 2, 3, 5, -4), (MATCHED, 1, 2, 5)], [[0, 0]])

    def test_a_hand_and_itself(self):
        self.assert_tail(nominated(4, -4) + [(MATCHED, 1, 1, 5)], [[0, 0]])

    def test_no_such_hand(self):
        for call in [(MATCHED, 1, 4, 5), (MATCHED, 4, 1, 5), (MATCHED, 4, 4, 5)]:
            self.assert_refused(nominated(4, -4), call, -5, [(MATCHED, 1, 2, 5)])

    def test_changes_nothing(self):
        after = [(POSITION, 1, 5), (MATCHED, 1, 2, 5)]
        self.assert_tail(nominated(4, -4) + [(MATCHED, 1, 2, 5)] + after, [[0, 0, 4, 4], [0, 4]])


class Position(HouseCase):
    def test_nothing_told(self):
        self.assert_last(house() + [(POSITION, 3, 9999)], [0, 0, 0, 0])

    def test_market_and_matched_and_both(self):
        self.assert_tail(house(4) + [
            (MARKET, 1, 5, -20), (NOMINATE, 1, 2, 5, 7), (NOMINATE, 2, 1, 5, -5), (NOMINATE, 1, 3, 5, -4),
            (NOMINATE, 3, 1, 5, 9), (NOMINATE, 1, 4, 5, 100), (NOMINATE, 2, 3, 5, 50), (NOMINATE, 3, 2, 5, -50),
            (POSITION, 1, 5), (POSITION, 2, 5), (POSITION, 3, 5), (POSITION, 4, 5), (POSITION, 1, 6),
        ], [[0, -20, 1, -19], [0, 0, 45, 45], [0, 0, -46, -46], [0, 0, 0, 0], [0, 0, 0, 0]])

    def test_meter_and_reserve_are_no_part_of_it(self):
        self.assert_tail(house() + [(METER, 1, 5, 9), (RESERVE, 5, 1, UP, 3, 1), (MARKET, 1, 5, 2), (POSITION, 1, 5)],
                         [[0, 2, 0, 2]])

    def test_the_greatest_sums(self):
        calls = house(32) + [(MARKET, 1, 5, BILLION)]
        calls += [(NOMINATE, 1, other, 5, BILLION) for other in range(2, 33)]
        calls += [(NOMINATE, other, 1, 5, -BILLION) for other in range(2, 33)]
        self.assert_tail(calls + [(POSITION, 1, 5), (POSITION, 32, 5)],
                         [[0, BILLION, 31 * BILLION, 32 * BILLION], [0, 0, -BILLION, -BILLION]])

    def test_no_such_hand(self):
        self.assert_refused(house(), (POSITION, 4, 5), -5, [(POSITION, 1, 5)])


if __name__ == "__main__":
    unittest.main()
