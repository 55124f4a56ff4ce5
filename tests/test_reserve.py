import unittest

from quarterhouse.changes import add_reserve
from quarterhouse.state import House, Reserve, Rules
from tests.helper import (
    DOWN, LOCK, METER, RESERVE, SETTLE, UNRESERVE, UP, HouseCase, ask, house,
)

CALL = (RESERVE, 5, 1, UP, 2, 3)
LOCKED = [(SETTLE, 5), (LOCK, 5)]
PROBES = [CALL, (UNRESERVE, 1), (RESERVE, 6, 2, DOWN, 4, 3), (SETTLE, 5), (SETTLE, 6), (LOCK, 5), CALL]


class Reserving(HouseCase):
    def test_numbers_from_1_in_order_over_all_quarters_and_hands(self):
        self.assert_tail(house() + [CALL, (RESERVE, 6, 3, DOWN, 1, 9), CALL], [[0, 1], [0, 2], [0, 3]])

    def test_no_such_hand_comes_first(self):
        call = (RESERVE, 5, 4, UP, 2, 9)
        for before in (house(), house(low=0, high=8), house() + LOCKED, house() + [CALL] * 64):
            self.assert_refused(before, call, -5, PROBES)

    def test_price_beyond_low_and_high_comes_next(self):
        rules = house(low=-3, high=8)
        self.assert_last(rules + [(RESERVE, 5, 1, UP, 2, -3)], [0, 1])
        self.assert_last(rules + [(RESERVE, 5, 1, DOWN, 2, 8)], [0, 1])
        for price in (-4, 9):
            for before in (rules, rules + LOCKED, rules + [CALL] * 64):
                self.assert_refused(before, (RESERVE, 5, 1, UP, 2, price), -9, PROBES)

    def test_locked_comes_before_full(self):
        for before in (house() + LOCKED, house() + [(RESERVE, 6, 1, UP, 2, 3)] * 64 + LOCKED):
            self.assert_refused(before, CALL, -7, PROBES)
        self.assert_last(house() + LOCKED + [(RESERVE, 6, 1, UP, 2, 3)], [0, 1])

    def test_the_64th_and_the_65th(self):
        self.assert_last(house() + [CALL] * 64, [0, 64])
        self.assert_refused(house() + [CALL] * 64, CALL, -6, [(UNRESERVE, 7)] + PROBES)

    def test_the_64th_is_counted_over_all_quarters(self):
        calls = [(RESERVE, quarter, 1, UP, 2, 3) for quarter in range(65)]
        self.assert_tail(house() + calls, [[0, 64], [-6]])

    def test_a_number_does_not_come_back(self):
        self.assert_tail(house() + [CALL, CALL, (UNRESERVE, 2), CALL, (UNRESERVE, 1), (UNRESERVE, 3), CALL],
                         [[0], [0, 3], [0], [0], [0, 4]])
        self.assert_tail(house() + [CALL] * 64 + [(UNRESERVE, 64), CALL, CALL], [[0, 65], [-6]])

    def test_a_refused_call_takes_no_number(self):
        self.assertEqual(ask(house(low=0, high=8) + [(RESERVE, 5, 1, UP, 2, 9), (RESERVE, 5, 4, UP, 2, 3), CALL])[4:],
                         [[-9], [-5], [0, 1]])

    def test_a_billion_told(self):
        kept = House()
        kept.rules = Rules(0, 0, 0, 9, 0, 0)
        kept.hands = 1
        kept.reserves_told = 10 ** 9 - 1
        self.assertEqual(add_reserve(kept, Reserve(5, 1, UP, 2, 3)), [0, 10 ** 9])
        self.assertEqual(add_reserve(kept, Reserve(5, 1, UP, 2, 3)), [-6])
        self.assertEqual(list(kept.reserves), [10 ** 9])


class Unreserving(HouseCase):
    def test_it_goes(self):
        calls = house() + [CALL, (RESERVE, 5, 2, UP, 4, 7), (METER, 3, 5, -1)]
        self.assert_tail(calls + [(UNRESERVE, 2), (SETTLE, 5)], [[0], [0, 2, 0, -3, 3, 3]])
        self.assert_tail(calls + [(UNRESERVE, 1), (SETTLE, 5)], [[0], [0, 2, 0, -7, 3, 7]])
        self.assert_tail(calls + [(UNRESERVE, 1), (UNRESERVE, 2), (SETTLE, 5)], [[0], [0], [0, 0]])

    def test_it_is_not_there(self):
        self.assert_refused(house() + [CALL], (UNRESERVE, 2), -8, PROBES)
        self.assert_refused(house() + [CALL, (UNRESERVE, 1)], (UNRESERVE, 1), -8, PROBES)
        self.assert_refused(house(), (UNRESERVE, 10 ** 9), -8, PROBES)

    def test_its_quarter_is_locked(self):
        before = house() + [CALL, (RESERVE, 6, 1, UP, 2, 3)] + LOCKED
        self.assert_refused(before, (UNRESERVE, 1), -7, [(UNRESERVE, 1), (SETTLE, 5), (SETTLE, 6)])
        self.assert_last(before + [(UNRESERVE, 2)], [0])

    def test_makes_room(self):
        self.assert_tail(house() + [CALL] * 64 + [(UNRESERVE, 1), CALL, CALL], [[0, 65], [-6]])


if __name__ == "__main__":
    unittest.main()
