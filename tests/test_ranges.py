import unittest

from tests.helper import (
    ACCOUNT, AHEAD, BILLION, BOOKED, FRESH, HAND, IMBALANCE, LOCK, MARKET, MATCHED, MERIT, METER, NOMINATE, OPEN, PARTS,
    PENDING, POSITION, PRICES, RESERVE, SETTLE, SUMS, SYSTEM, UNMATCHED, UNRESERVE, WEIGHT,
    HouseCase, ask, house, last, opening, splitting,
)

FLAG = (0, 1)
PRICE = (-1000000, 1000000)
A_HAND = (1, 32)
QUARTER = (0, 9999)
AMOUNT = (-BILLION, BILLION)
A_WEIGHT = (0, BILLION)

# For each call an ordinary row, and the range of each of its arguments.
CALLS = [
    ((OPEN, 0, 0, -1000000, 1000000, 5, 5), [FLAG, FLAG, PRICE, PRICE, (0, BILLION), (0, 1000000)]),
    ((MARKET, 1, 2, 3), [A_HAND, QUARTER, AMOUNT]),
    ((METER, 1, 2, 3), [A_HAND, QUARTER, AMOUNT]),
    ((WEIGHT, 1, 2, 3), [A_HAND, QUARTER, A_WEIGHT]),
    ((AHEAD, 2, 3), [QUARTER, PRICE]),
    ((NOMINATE, 1, 2, 3, 4), [A_HAND, A_HAND, QUARTER, AMOUNT]),
    ((RESERVE, 2, 1, 1, 5, 6), [QUARTER, A_HAND, FLAG, (1, BILLION), PRICE]),
    ((UNRESERVE, 1), [(1, BILLION)]),
    ((SETTLE, 2), [QUARTER]),
    ((LOCK, 2), [QUARTER]),
    ((POSITION, 1, 2), [A_HAND, QUARTER]),
    ((MATCHED, 1, 2, 3), [A_HAND, A_HAND, QUARTER]),
    ((IMBALANCE, 1, 2), [A_HAND, QUARTER]),
    ((PRICES, 2), [QUARTER]),
    ((FRESH, 2), [QUARTER]),
    ((PARTS, 1, 2), [A_HAND, QUARTER]),
    ((BOOKED, 2), [QUARTER]),
    ((ACCOUNT, 1), [(0, 32)]),
    ((MERIT, 2), [QUARTER]),
    ((SYSTEM, 2), [QUARTER]),
    ((UNMATCHED, 1, 2), [A_HAND, QUARTER]),
]
# How many weights there are is told apart from these, as it can't be changed by itself.
SPLITS = [(1, 2, 3), (4,), (0,) * 32]
WHOLE = (-10 ** 12, 10 ** 12)
FAR = 10 ** 18


def rows_with(row, place, numbers):
    return [row[:place] + (number,) + row[place + 1:] for number in numbers]


def ranges_by_place():
    """Each ordinary row, a place in it, and the range of what stands there."""
    found = [(row, place, ends) for row, ranges in CALLS for place, ends in enumerate(ranges, start=1)]
    for weights in SPLITS:
        row = splitting(7, weights)
        found.append((row, 1, WHOLE))
        found.extend((row, place, A_WEIGHT) for place in range(3, len(row)))
    return found


def rows_at_the_ends():
    return [found for row, place, ends in ranges_by_place() for found in rows_with(row, place, ends)]


def rows_beyond():
    found = [
        changed for row, place, (low, high) in ranges_by_place()
        for changed in rows_with(row, place, (low - 1, high + 1, -FAR, FAR))
    ]
    return found + [splitting(7, []), splitting(7, (1,) * 33), splitting(7, (1,) * 200)]


class Ranges(HouseCase):
    def test_both_ends_are_within(self):
        everybody = house(32)
        # What isn't there yet, or isn't booked, or is the same hand is within its range all the same.
        told = {OPEN: [0], UNRESERVE: [0, -8], LOCK: [-11], NOMINATE: [0], RESERVE: [0]}
        for row in rows_at_the_ends():
            with self.subTest(row=row):
                before = [] if row[0] == OPEN else everybody + [(RESERVE, 0, 1, 1, 1, 0)]
                if row[:3] == (NOMINATE, 2, 2) or row[:3] == (NOMINATE, 1, 1):
                    self.assert_last(before + [row], [-10])
                else:
                    self.assertIn(last(before + [row])[0], told.get(row[0], [0]))

    def test_beyond_the_ends_is_refused(self):
        for row in rows_beyond():
            with self.subTest(row=row):
                before = [] if row[0] == OPEN else house(32)
                self.assert_last(before + [row], [-1])

    def test_range_comes_before_the_house_that_is_not_open(self):
        for row in rows_beyond():
            with self.subTest(row=row):
                self.assert_last([row], [-1])

    def test_within_its_range_a_call_is_refused_while_the_house_is_not_open(self):
        for row in [(HAND,), (PENDING,), (SUMS,)] + rows_at_the_ends():
            if row[0] != OPEN:
                with self.subTest(row=row):
                    self.assert_refused([], row, -2, house(2) + [(POSITION, 1, 2), (SETTLE, 2)])

    def test_not_open_comes_before_no_such_hand(self):
        for row in [(POSITION, 1, 2), (MATCHED, 1, 1, 2), (IMBALANCE, 1, 2), (PARTS, 1, 2), (UNMATCHED, 1, 2),
                    (ACCOUNT, 1)]:
            with self.subTest(row=row):
                self.assertEqual(ask([row, opening(), row]), [[-2], [0], [-5]])

    def test_range_comes_before_the_other_refusals(self):
        locked = house(2, low=-5, high=5) + [(SETTLE, 2), (LOCK, 2)]
        for row in [
            (OPEN, 2, 0, 5, -5, 0, 0), (MARKET, 3, 2, BILLION + 1), (METER, 3, 2, BILLION + 1), (WEIGHT, 3, 2, -1),
            (AHEAD, 10000, 6), (NOMINATE, 3, 3, 2, BILLION + 1), (RESERVE, 2, 3, 1, 0, 6), (RESERVE, 2, 3, 2, 1, 6),
            (MATCHED, 3, 33, 2), (POSITION, 3, 10000), (IMBALANCE, 3, 10000), (PARTS, 3, 10000),
            (UNMATCHED, 3, 10000),
        ]:
            with self.subTest(row=row):
                self.assert_last(locked + [row], [-1])

    def test_refused_for_its_range_changes_nothing(self):
        before = house(2) + [(MARKET, 1, 2, 9), (RESERVE, 2, 1, 1, 5, 6), (SETTLE, 2)]
        after = [(POSITION, 1, 2), (POSITION, 2, 2), (MATCHED, 1, 2, 3), (RESERVE, 3, 1, 1, 5, 6),
                 (SETTLE, 2), (SETTLE, 3), (HAND,), (LOCK, 2), (UNRESERVE, 1), (UNRESERVE, 2), (SUMS,)]
        for row in rows_beyond():
            with self.subTest(row=row):
                self.assert_refused(before, row, -1, after)

    def test_an_opening_refused_for_its_range_leaves_the_house_not_open(self):
        self.assert_refused([], (OPEN, 0, 0, 0, 0, -1, 0), -1, [(HAND,), opening(), (HAND,)])


if __name__ == "__main__":
    unittest.main()
