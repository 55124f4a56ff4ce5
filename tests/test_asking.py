import unittest

from tests.helper import (
    ACCOUNT, AHEAD, BILLION, BOOKED, DOWN, FRESH, HAND, IMBALANCE, LOCK, MARKET, MATCHED, MERIT, METER, NOMINATE, PARTS,
    PENDING, POSITION, PRICES, RESERVE, SETTLE, SUMS, SYSTEM, UNMATCHED, UNRESERVE, UP, WEIGHT,
    HouseCase, ask, house, splitting,
)

# Quarter 5 is booked and has changed since, 6 is locked, 7 is told of and not booked.
FILLED = house() + [
    (MARKET, 1, 5, 20), (NOMINATE, 1, 2, 5, 3), (NOMINATE, 2, 1, 5, -8), (METER, 1, 5, 7), (METER, 2, 5, 40),
    (RESERVE, 5, 1, UP, 2, 70), (RESERVE, 5, 1, DOWN, 5, 10), (WEIGHT, 2, 5, 4), (SETTLE, 5), (METER, 2, 5, 41),
    (AHEAD, 6, 3), (METER, 3, 6, 7), (SETTLE, 6), (LOCK, 6), (METER, 3, 7, 8), (NOMINATE, 3, 1, 7, 9),
]
ASKS = (
    [(kind, hand, quarter) for kind in (POSITION, IMBALANCE, PARTS, UNMATCHED) for hand in range(1, 4)
     for quarter in range(5, 9)]
    + [(kind, quarter) for kind in (PRICES, FRESH, BOOKED, MERIT, SYSTEM) for quarter in range(5, 9)]
    + [(MATCHED, 1, 2, 5), (MATCHED, 2, 1, 5), (PENDING,), (SUMS,), splitting(-7, [1, 2, 3]), splitting(5, [0, 0])]
    + [(ACCOUNT, hand) for hand in range(4)]
)
REFUSED_ASKS = [
    (POSITION, 4, 5), (MATCHED, 1, 4, 5), (IMBALANCE, 4, 5), (PARTS, 4, 5), (ACCOUNT, 4), (UNMATCHED, 4, 5),
    (POSITION, 1, 10000), (IMBALANCE, 0, 5), (PRICES, -1), (FRESH, -1), (PARTS, 33, 5), (BOOKED, 10000), (ACCOUNT, -1),
    (MERIT, -1), (SYSTEM, -1), (UNMATCHED, 0, 5), splitting(5, []), splitting(5, [1] * 200),
]
CHANGES = [
    (HAND,), (RESERVE, 8, 1, UP, 1, 1), (UNRESERVE, 1), (UNRESERVE, 3), (METER, 1, 8, 3), (METER, 1, 5, -6),
    (SETTLE, 7), (SETTLE, 5), (LOCK, 8), (LOCK, 7), (SETTLE, 6),
]


def nominated(there, back):
    return house() + [(NOMINATE, 1, 2, 5, there), (NOMINATE, 2, 1, 5, back)]


class Matched(HouseCase):
    def test_the_lesser_of_both(self):
        for there, back, expected in [
            (4, -4, 4), (4, -3, 3), (3, -4, 3), (1, -1, 1), (-4, 4, -4), (-4, 3, -3), (-3, 4, -3),
            (BILLION, -BILLION, BILLION),
        ]:
            with self.subTest(there=there, back=back):
                self.assert_tail(nominated(there, back) + [(MATCHED, 1, 2, 5), (MATCHED, 2, 1, 5)],
                                 [[0, expected], [0, -expected]])

    def test_nothing_is_matched_where_both_give_or_both_take_or_one_said_nothing(self):
        for there, back in [(4, 4), (-4, -4), (4, 0), (0, 4), (-4, 0), (0, -4), (0, 0), (4, 3), (-3, -4)]:
            with self.subTest(there=there, back=back):
                self.assert_tail(nominated(there, back) + [(MATCHED, 1, 2, 5), (MATCHED, 2, 1, 5)], [[0, 0], [0, 0]])

    def test_only_these_two_in_this_quarter(self):
        self.assert_tail(nominated(4, -4) + [(MATCHED, 1, 3, 5), (MATCHED, 3, 2, 5), (MATCHED, 1, 2, 6)],
                         [[0, 0]] * 3)
        self.assert_tail(house() + [(NOMINATE, 1, 2, 5, 4), (NOMINATE, 2, 1, 6, -4), (MATCHED, 1, 2, 5)], [[0, 0]])
        self.assert_tail(house() + [(NOMINATE, 1, 2, 5, 4), (NOMINATE, 2, 3, 5, -4), (MATCHED, 1, 2, 5)], [[0, 0]])

    def test_a_hand_and_itself(self):
        self.assert_tail(nominated(4, -4) + [(MATCHED, 1, 1, 5)], [[0, 0]])

    def test_no_such_hand(self):
        for call in [(MATCHED, 1, 4, 5), (MATCHED, 4, 1, 5), (MATCHED, 4, 4, 5)]:
            self.assert_refused(nominated(4, -4), call, -5, [(MATCHED, 1, 2, 5)])

    def test_changes_nothing(self):
        after = [(POSITION, 1, 5), (MATCHED, 1, 2, 5)]
        self.assert_tail(nominated(4, -4) + [(MATCHED, 1, 2, 5)] + after, [[0, 0, 4, 4], [0, 4]])


class Position(HouseCase):
    def test_nothing_told(self):
        self.assert_last(house() + [(POSITION, 3, 9999)], [0, 0, 0, 0])

    def test_market_and_matched_and_both(self):
        self.assert_tail(house(4) + [
            (MARKET, 1, 5, -20), (NOMINATE, 1, 2, 5, 7), (NOMINATE, 2, 1, 5, -5), (NOMINATE, 1, 3, 5, -4),
            (NOMINATE, 3, 1, 5, 9), (NOMINATE, 1, 4, 5, 100), (NOMINATE, 2, 3, 5, 50), (NOMINATE, 3, 2, 5, -50),
            (POSITION, 1, 5), (POSITION, 2, 5), (POSITION, 3, 5), (POSITION, 4, 5), (POSITION, 1, 6),
        ], [[0, -20, 1, -19], [0, 0, 45, 45], [0, 0, -46, -46], [0, 0, 0, 0], [0, 0, 0, 0]])

    def test_meter_and_reserve_are_no_part_of_it(self):
        self.assert_tail(house() + [(METER, 1, 5, 9), (RESERVE, 5, 1, UP, 3, 1), (MARKET, 1, 5, 2), (POSITION, 1, 5)],
                         [[0, 2, 0, 2]])

    def test_the_greatest_sums(self):
        calls = house(32) + [(MARKET, 1, 5, BILLION)]
        calls += [(NOMINATE, 1, other, 5, BILLION) for other in range(2, 33)]
        calls += [(NOMINATE, other, 1, 5, -BILLION) for other in range(2, 33)]
        self.assert_tail(calls + [(POSITION, 1, 5), (POSITION, 32, 5)],
                         [[0, BILLION, 31 * BILLION, 32 * BILLION], [0, 0, -BILLION, -BILLION]])

    def test_no_such_hand(self):
        self.assert_refused(house(), (POSITION, 4, 5), -5, [(POSITION, 1, 5)])


class ChangesNothing(HouseCase):
    def test_each_ask_by_itself(self):
        after = ASKS + CHANGES + ASKS
        without = ask(FILLED + after)
        for call in ASKS + REFUSED_ASKS:
            with self.subTest(call=call):
                given = ask(FILLED + [call] + after)
                self.assertEqual(given[:len(FILLED)] + given[len(FILLED) + 1:], without)

    def test_asked_twice_it_is_answered_the_same(self):
        given = ask(FILLED + [again for call in ASKS + REFUSED_ASKS for again in (call, call)])[len(FILLED):]
        self.assertEqual(given[0::2], given[1::2])

    def test_the_asks_answer_and_the_refused_ones_are_refused(self):
        given = ask(FILLED + ASKS + REFUSED_ASKS)[len(FILLED):]
        self.assertEqual({answer[0] for answer in given[:len(ASKS)]}, {0})
        self.assertEqual([answer for answer in given[len(ASKS):]], [[-5]] * 6 + [[-1]] * 12)

    def test_while_the_house_is_not_open(self):
        self.assertEqual(ask(ASKS + FILLED), [[-2]] * len(ASKS) + ask(FILLED))

    def test_answers_are_not_moved_by_what_comes_behind(self):
        given = ask(FILLED + ASKS)
        self.assertEqual(ask(FILLED + ASKS + CHANGES)[:len(given)], given)


if __name__ == "__main__":
    unittest.main()
