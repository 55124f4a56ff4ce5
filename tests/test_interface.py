import unittest

from quarterhouse.house import answers
from tests.helper import (
    ACCOUNT, AHEAD, BOOKED, FRESH, HAND, IMBALANCE, LOCK, MARKET, MATCHED, MERIT, METER, NOMINATE, PARTS, PENDING,
    POSITION, PRICES, RESERVE, SETTLE, SUMS, SYSTEM, UNMATCHED, UNRESERVE, UP, WEIGHT,
    HouseCase, flat, house, opening, rows, splitting,
)

EVERY_CALL = house(2, low=-100, high=100, threshold=5, add_on=3) + [
    (MARKET, 1, 7, 50), (METER, 1, 7, 45), (METER, 2, 7, 5), (WEIGHT, 2, 7, 1), (AHEAD, 7, 12),
    (NOMINATE, 1, 2, 7, 4), (NOMINATE, 2, 1, 7, -3), (RESERVE, 7, 2, UP, 5, 20), (RESERVE, 7, 2, UP, 1, 20),
    (UNRESERVE, 2), (SETTLE, 7), (LOCK, 7), (POSITION, 1, 7), (MATCHED, 2, 1, 7), (UNRESERVE, 2),
    (IMBALANCE, 2, 7), (PRICES, 7), (FRESH, 7), (PARTS, 2, 7), (BOOKED, 7), (ACCOUNT, 2), (MERIT, 7), (SYSTEM, 7),
    (UNMATCHED, 1, 7), (PENDING,), (SUMS,), splitting(-5, [1, 1, 0]),
]
WIDE = splitting(9, [1] * 200)


class Interface(HouseCase):
    def test_each_answer_stands_behind_its_count(self):
        self.assertEqual(answers([1]), [1, -2])
        self.assertEqual(answers(flat([opening(), (HAND,), (HAND,), (MARKET, 3, 0, 1), (MATCHED, 1, 2, 0)])),
                         [1, 0, 2, 0, 1, 2, 0, 2, 1, -5, 2, 0, 0])

    def test_every_call_in_one_list(self):
        # Hand 1: position 50 + 3, metered 45, imbalance -8, owes 8 * 23.
        # Hand 2: position -3, metered 5, called 5, imbalance 3, owes -3 * 23 - 5 * 20, and all of the rest.
        expected = [
            1, 0, 2, 0, 1, 2, 0, 2,
            1, 0, 1, 0, 1, 0, 1, 0, 1, 0,
            1, 0, 1, 0, 2, 0, 1, 2, 0, 2,
            1, 0, 6, 0, 2, 1, 184, 2, -184, 1, 0, 4, 0, 50, 3, 53, 2, 0, -3, 1, -8,
            3, 0, 3, 5, 5, 0, 1, 23, 23, 23, 6, 0, 2, 1, 184, 2, -184, 4, 0, -69, -100, -15,
            8, 0, 1, 1, 2, 1, 184, 2, -184, 2, 0, -184, 7, 0, 1, 1, 2, 1, 5, 20, 7, 0, 5, 0, -5, 50, 15, 1,
            5, 0, 1, 2, 4, 3, 2, 0, 0, 5, 0, 2, 7, 1, 1, 4, 0, -3, -2, 0,
        ]
        self.assertEqual(answers(flat(EVERY_CALL)), expected)

    def test_what_is_handed_in_stays_as_it_is(self):
        calls = flat(EVERY_CALL)
        before = list(calls)
        answers(calls)
        self.assertEqual(calls, before)

    def test_nothing_is_kept_from_one_time_to_the_next(self):
        first = answers(flat(EVERY_CALL))
        self.assertEqual(answers(flat(EVERY_CALL)), first)
        self.assertEqual(answers([1]), [1, -2])
        self.assertEqual(answers(flat(EVERY_CALL)), first)

    def test_what_was_given_back_may_be_changed(self):
        given = answers(flat(EVERY_CALL))
        kept = list(given)
        given.clear()
        self.assertEqual(answers(flat(EVERY_CALL)), kept)

    def test_plain_list_of_plain_numbers(self):
        given = answers(flat(EVERY_CALL))
        self.assertIs(type(given), list)
        self.assertEqual({type(number) for number in given}, {int})

    def test_four_hundred_calls(self):
        calls = house(1) + [(MARKET, 1, 0, 1)] * 397 + [(POSITION, 1, 0)]
        self.assertEqual(len(calls), 400)
        self.assert_last(calls, [0, 1, 0, 1])

    def test_17000_numbers(self):
        calls = EVERY_CALL + [WIDE, (SUMS,)] * 81
        calls += [(ACCOUNT, 2)] * ((17000 - len(flat(calls))) // 2)
        numbers = flat(calls)
        self.assertLessEqual(len(calls), 400)
        self.assertIn(len(numbers), (16999, 17000))
        before = list(numbers)
        given = rows(answers(numbers))
        self.assertEqual(numbers, before)
        self.assertEqual(given[len(EVERY_CALL):len(EVERY_CALL) + 162], [[-1], [0, 2, 7, 1, 1]] * 81)
        self.assertEqual(given[-1], [0, -184])


if __name__ == "__main__":
    unittest.main()
