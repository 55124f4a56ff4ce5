import unittest

from tests.helper import (
    AHEAD, BOOKED, DOWN, FRESH, HAND, LOCK, MARKET, METER, NOMINATE, PARTS, RESERVE, SETTLE, UNRESERVE, UP, WEIGHT,
    HouseCase, ask, house, last,
)

# The price is 10; hand 1 is 13 short and was called 2 up at 70 and 5 down at 10, hand 2 is 43 long.
TOLD = house() + [
    (MARKET, 1, 5, 20), (NOMINATE, 1, 2, 5, 3), (NOMINATE, 2, 1, 5, -8), (METER, 1, 5, 7), (METER, 2, 5, 40),
    (RESERVE, 5, 1, UP, 2, 70), (RESERVE, 5, 1, DOWN, 5, 10),
]
WEIGHTED = TOLD + [(WEIGHT, 2, 5, 4), (WEIGHT, 3, 5, 9)]
# The rest is -10.
SHORT = house() + [(AHEAD, 5, 1), (METER, 1, 5, -10)]
THIRDS = SHORT + [(WEIGHT, 1, 5, 1), (WEIGHT, 2, 5, 1), (WEIGHT, 3, 5, 1)]
HOUSES = [TOLD, WEIGHTED, SHORT, THIRDS, house(), house(two_prices=1, low=3) + TOLD[4:] + [(WEIGHT, 1, 5, 7)]]


class Fresh(HouseCase):
    def test_all_weights_0_nobody_is_among_them(self):
        self.assert_tail(TOLD + [(FRESH, 5)], [[0, 3, 0, 390, 1, 40, 2, -430]])
        self.assert_tail(SHORT + [(FRESH, 5)], [[0, 2, 0, -10, 1, 10]])

    def test_with_weights_nobody_owes_0(self):
        self.assert_tail(WEIGHTED + [(FRESH, 5)], [[0, 3, 1, 40, 2, -310, 3, 270]])
        self.assert_tail(THIRDS + [(FRESH, 5)], [[0, 3, 1, 6, 2, -3, 3, -3]])

    def test_nobody_owes_anything(self):
        self.assert_tail(TOLD + [(FRESH, 6)], [[0, 0]])
        self.assert_tail(house(0) + [(AHEAD, 5, 12), (FRESH, 5)], [[0, 0]])

    def test_what_makes_0_together_is_left_out(self):
        # Hand 2 gets 10 and owes the whole rest of 10.
        self.assert_tail(house() + [(AHEAD, 5, 1), (METER, 2, 5, 10), (WEIGHT, 2, 5, 1), (FRESH, 5)], [[0, 0]])

    def test_it_is_told_from_0_and_not_from_what_is_booked(self):
        self.assert_tail(TOLD + [(SETTLE, 5), (FRESH, 5), (METER, 2, 5, 41), (FRESH, 5), (SETTLE, 5)],
                         [[0, 3, 0, 390, 1, 40, 2, -430], [0], [0, 3, 0, 400, 1, 40, 2, -440],
                          [0, 2, 0, 10, 2, -10]])

    def test_a_first_settle_answers_the_same(self):
        for before in HOUSES:
            given = ask(before + [(FRESH, 5), (SETTLE, 5)])
            self.assertEqual(given[-1], given[-2])

    def test_right_behind_a_settle_it_is_what_is_booked(self):
        changes = [(METER, 3, 5, 2), (WEIGHT, 1, 5, 3), (HAND,), (METER, 4, 5, -1)]
        for before in HOUSES:
            calls = before + [call for change in changes for call in (change, (SETTLE, 5), (FRESH, 5), (BOOKED, 5))]
            given = ask(calls)[len(before):]
            for fresh, booked in zip(given[2::4], given[3::4]):
                self.assertEqual(booked, [0, 1, 0] + fresh[1:])

    def test_a_locked_quarter_is_asked_like_others(self):
        self.assert_tail(SHORT + [(SETTLE, 5), (LOCK, 5), (FRESH, 5)], [[0, 2, 0, -10, 1, 10]])


class Parts(HouseCase):
    def test_all_three(self):
        self.assert_tail(WEIGHTED + [(PARTS, 1, 5), (PARTS, 2, 5), (PARTS, 3, 5)],
                         [[0, 130, -90, 0], [0, -430, 0, 120], [0, 0, 0, 270]])

    def test_without_weights_nobody_of_the_hands_has_a_share(self):
        self.assert_tail(TOLD + [(PARTS, 1, 5), (PARTS, 2, 5), (PARTS, 3, 5)],
                         [[0, 130, -90, 0], [0, -430, 0, 0], [0, 0, 0, 0]])

    def test_a_share_below_0(self):
        self.assert_tail(THIRDS + [(PARTS, 1, 5), (PARTS, 2, 5), (PARTS, 3, 5)],
                         [[0, 10, 0, -4], [0, 0, 0, -3], [0, 0, 0, -3]])

    def test_a_reserve_up_is_paid_and_one_down_pays(self):
        calls = house() + [(RESERVE, 5, 1, UP, 3, 7), (RESERVE, 5, 2, DOWN, 3, 7), (RESERVE, 5, 3, UP, 3, -7),
                           (RESERVE, 6, 1, UP, 100, 7), (METER, 1, 5, 3), (METER, 2, 5, -3), (METER, 3, 5, 3)]
        self.assert_tail(calls + [(PARTS, 1, 5), (PARTS, 2, 5), (PARTS, 3, 5)],
                         [[0, 0, -21, 0], [0, 0, 21, 0], [0, 0, 21, 0]])

    def test_two_prices(self):
        calls = house(two_prices=1) + [(AHEAD, 5, 3), (RESERVE, 5, 3, UP, 1, 8), (METER, 1, 5, -2), (METER, 2, 5, 2)]
        self.assert_tail(calls + [(PARTS, 1, 5), (PARTS, 2, 5), (PARTS, 3, 5)],
                         [[0, 16, 0, 0], [0, -6, 0, 0], [0, 8, -8, 0]])

    def test_nothing_told(self):
        self.assert_tail(TOLD + [(PARTS, 1, 6), (HAND,), (PARTS, 4, 5)], [[0, 0, 0, 0], [0, 4], [0, 0, 0, 0]])

    def test_what_is_booked_is_no_part_of_it(self):
        self.assert_tail(SHORT + [(SETTLE, 5), (METER, 1, 5, -11), (PARTS, 1, 5)], [[0, 11, 0, 0]])

    def test_together_they_are_what_fresh_answers(self):
        for before in HOUSES:
            for more in ([], [(METER, 3, 5, -7)], [(HAND,), (METER, 4, 5, 11), (WEIGHT, 4, 5, 2)], [(UNRESERVE, 1)]):
                calls = before + more
                hands = calls.count((HAND,))
                answer = last(calls + [(FRESH, 5)])
                owed = dict(zip(answer[2::2], answer[3::2]))
                for hand in range(1, hands + 1):
                    with self.subTest(calls=calls, hand=hand):
                        self.assertEqual(sum(last(calls + [(PARTS, hand, 5)])[1:]), owed.get(hand, 0))

    def test_no_such_hand(self):
        self.assert_refused(WEIGHTED, (PARTS, 4, 5), -5, [(PARTS, 1, 5), (FRESH, 5)])


if __name__ == "__main__":
    unittest.main()
