import unittest

from quarterhouse.house import answers
from tests.helper import (
    AHEAD, HAND, LOCK, MARKET, MATCHED, METER, NOMINATE, POSITION, RESERVE, SETTLE, UNRESERVE, UP, WEIGHT,
    HouseCase, flat, house, opening,
)

EVERY_CALL = house(2, low=-100, high=100, threshold=5, add_on=3) + [
    (MARKET, 1, 7, 50), (METER, 1, 7, 45), (METER, 2, 7, 5), (WEIGHT, 2, 7, 1), (AHEAD, 7, 12),
    (NOMINATE, 1, 2, 7, 4), (NOMINATE, 2, 1, 7, -3), (RESERVE, 7, 2, UP, 5, 20), (RESERVE, 7, 2, UP, 1, 20),
    (UNRESERVE, 2), (SETTLE, 7), (LOCK, 7), (POSITION, 1, 7), (MATCHED, 2, 1, 7), (UNRESERVE, 2),
]


class Interface(HouseCase):
    def test_each_answer_stands_behind_its_count(self):
        self.assertEqual(answers([1]), [1, -2])
        self.assertEqual(answers(flat([opening(), (HAND,), (HAND,), (MARKET, 3, 0, 1), (MATCHED, 1, 2, 0)])),
                         [1, 0, 2, 0, 1, 2, 0, 2, 1, -5, 2, 0, 0])

    def test_every_call_in_one_list(self):
        # Hand 1: position 50 + 3, metered 45, imbalance -8, owes 8 * 23.
        # Hand 2: position -3, metered 5, called 5, imbalance 3, owes -3 * 23 - 5 * 20, and all of the rest.
        expected = [
            1, 0, 2, 0, 1, 2, 0, 2,
            1, 0, 1, 0, 1, 0, 1, 0, 1, 0,
            1, 0, 1, 0, 2, 0, 1, 2, 0, 2,
            1, 0, 6, 0, 2, 1, 184, 2, -184, 1, 0, 4, 0, 50, 3, 53, 2, 0, -3, 1, -8,
        ]
        self.assertEqual(answers(flat(EVERY_CALL)), expected)

    def test_what_is_handed_in_stays_as_it_is(self):
        calls = flat(EVERY_CALL)
        before = list(calls)
        answers(calls)
        self.assertEqual(calls, before)

    def test_nothing_is_kept_from_one_time_to_the_next(self):
        first = answers(flat(EVERY_CALL))
        self.assertEqual(answers(flat(EVERY_CALL)), first)
        self.assertEqual(answers([1]), [1, -2])
        self.assertEqual(answers(flat(EVERY_CALL)), first)

    def test_what_was_given_back_may_be_changed(self):
        given = answers(flat(EVERY_CALL))
        kept = list(given)
        given.clear()
        self.assertEqual(answers(flat(EVERY_CALL)), kept)

    def test_plain_list_of_plain_numbers(self):
        given = answers(flat(EVERY_CALL))
        self.assertIs(type(given), list)
        self.assertEqual({type(number) for number in given}, {int})

    def test_four_hundred_calls(self):
        calls = house(1) + [(MARKET, 1, 0, 1)] * 397 + [(POSITION, 1, 0)]
        self.assertEqual(len(calls), 400)
        self.assert_last(calls, [0, 1, 0, 1])


if __name__ == "__main__":
    unittest.main()
