import unittest

from tests.helper import (
    AHEAD, LOCK, MARKET, MATCHED, METER, NOMINATE, POSITION, SETTLE, WEIGHT, HouseCase, ask, house,
)

LOCKED = [(SETTLE, 5), (LOCK, 5)]
ONE_OF_EACH = [(MARKET, 1, 5, 4), (METER, 1, 5, 4), (WEIGHT, 1, 5, 4), (AHEAD, 5, 4), (NOMINATE, 1, 2, 5, 4)]
PROBES = [
    (POSITION, 1, 5), (POSITION, 2, 5), (MATCHED, 1, 2, 5), (MATCHED, 2, 1, 5), (SETTLE, 5), (SETTLE, 6), (LOCK, 5),
]


def filled(count):
    """So many entries, none of them in the quarters 5 and 6."""
    return [(MARKET, 1 + number % 3, 100 + number, 7) for number in range(count)]


class Telling(HouseCase):
    def test_answers_just_0(self):
        self.assertEqual(ask(house() + ONE_OF_EACH)[4:], [[0]] * 5)

    def test_what_was_told_last_holds(self):
        self.assert_tail(house() + [(MARKET, 1, 5, 4), (MARKET, 1, 5, -9), (POSITION, 1, 5)], [[0, -9, 0, -9]])
        self.assert_tail(house() + [(MARKET, 1, 5, 4), (MARKET, 1, 5, 0), (POSITION, 1, 5)], [[0, 0, 0, 0]])
        self.assert_tail(house() + [(AHEAD, 5, 2), (METER, 1, 5, 4), (METER, 1, 5, -9), (SETTLE, 5)],
                         [[0, 2, 0, -18, 1, 18]])
        self.assert_tail(house() + [(AHEAD, 5, 3), (AHEAD, 5, 2), (METER, 1, 5, -9), (SETTLE, 5)],
                         [[0, 2, 0, -18, 1, 18]])
        self.assert_tail(house() + [(AHEAD, 5, 2), (METER, 1, 5, -9), (WEIGHT, 2, 5, 7), (WEIGHT, 2, 5, 0), (SETTLE, 5)],
                         [[0, 2, 0, -18, 1, 18]])
        self.assert_tail(house() + [(NOMINATE, 1, 2, 5, 4), (NOMINATE, 2, 1, 5, -4), (NOMINATE, 1, 2, 5, 3),
                                    (MATCHED, 1, 2, 5)], [[0, 3]])

    def test_hands_and_quarters_are_kept_apart(self):
        calls = house() + [(MARKET, 1, 5, 4), (MARKET, 2, 5, 6), (MARKET, 1, 6, 8), (METER, 3, 5, 1)]
        self.assert_tail(calls + [(POSITION, 1, 5), (POSITION, 2, 5), (POSITION, 1, 6), (POSITION, 3, 5)],
                         [[0, 4, 0, 4], [0, 6, 0, 6], [0, 8, 0, 8], [0, 0, 0, 0]])

    def test_no_such_hand(self):
        for call in [(MARKET, 4, 5, 1), (METER, 4, 5, 1), (WEIGHT, 4, 5, 1), (NOMINATE, 4, 1, 5, 1),
                     (NOMINATE, 1, 4, 5, 1), (NOMINATE, 4, 4, 5, 1), (MARKET, 32, 5, 1), (MARKET, 4, 5, 0)]:
            with self.subTest(call=call):
                self.assert_refused(house(), call, -5, PROBES)
                self.assert_refused(house() + LOCKED, call, -5, PROBES)
                self.assert_refused(house() + filled(96), call, -5, PROBES)

    def test_ahead_beyond_low_and_high(self):
        rules = house(low=-3, high=8)
        self.assert_last(rules + [(AHEAD, 5, -3)], [0])
        self.assert_last(rules + [(AHEAD, 5, 8)], [0])
        for price in (-4, 9):
            self.assert_refused(rules + [(METER, 1, 5, 2)], (AHEAD, 5, price), -9, PROBES)
            self.assert_refused(rules + LOCKED, (AHEAD, 5, price), -9, PROBES)
            self.assert_refused(rules + filled(96), (AHEAD, 5, price), -9, PROBES)

    def test_ahead_of_0_is_a_price_like_others(self):
        self.assert_last(house(low=1, high=8) + [(AHEAD, 5, 3), (AHEAD, 5, 0)], [-9])
        self.assert_last(house(low=-8, high=-1) + [(AHEAD, 5, 0)], [-9])

    def test_nominated_to_itself(self):
        for before in (house(), house() + LOCKED, house() + filled(96)):
            self.assert_refused(before, (NOMINATE, 2, 2, 5, 1), -10, PROBES)

    def test_locked(self):
        for call in ONE_OF_EACH + [(MARKET, 1, 5, 0), (NOMINATE, 2, 1, 5, 0)]:
            with self.subTest(call=call):
                self.assert_refused(house() + LOCKED, call, -7, PROBES)
                self.assert_refused(house() + filled(96) + LOCKED, call, -7, PROBES)
                self.assert_last(house() + LOCKED + [call[:-2] + (6, 4)], [0])


class Entries(HouseCase):
    def test_the_96th_and_the_97th_of_each_sort(self):
        for call in ONE_OF_EACH:
            with self.subTest(call=call):
                self.assert_last(house() + filled(95) + [call], [0])
                self.assert_refused(house() + filled(96), call, -6, PROBES)

    def test_each_sort_counts_as_an_entry(self):
        for number, call in enumerate(ONE_OF_EACH):
            others = ONE_OF_EACH[:number] + ONE_OF_EACH[number + 1:]
            with self.subTest(call=call):
                self.assert_tail(house() + filled(91) + others + [call, (MARKET, 1, 6, 1)], [[0], [-6]])

    def test_what_is_0_is_no_entry(self):
        nothing = [(MARKET, 1, 5, 0), (METER, 1, 5, 0), (WEIGHT, 1, 5, 0), (AHEAD, 5, 0), (NOMINATE, 1, 2, 5, 0)]
        self.assert_tail(house() + filled(95) + nothing + nothing + [(MARKET, 1, 6, 1), (MARKET, 2, 6, 1)], [[0], [-6]])
        self.assertEqual(ask(house() + filled(96) + nothing)[-5:], [[0]] * 5)

    def test_an_entry_changed_is_no_new_one(self):
        self.assert_tail(house() + filled(91) + ONE_OF_EACH + [
            (MARKET, 1, 5, -8), (METER, 1, 5, 9), (WEIGHT, 1, 5, 8), (AHEAD, 5, -9), (NOMINATE, 1, 2, 5, -7),
            (MARKET, 1, 5, -8), (POSITION, 1, 5), (METER, 2, 5, 1),
        ], [[0, -8, 0, -8], [-6]])

    def test_an_entry_set_to_0_again_makes_room_for_one(self):
        back = [(MARKET, 1, 5, 0), (METER, 1, 5, 0), (WEIGHT, 1, 5, 0), (AHEAD, 5, 0), (NOMINATE, 1, 2, 5, 0)]
        for call in back:
            with self.subTest(call=call):
                self.assert_tail(house() + filled(91) + ONE_OF_EACH + [call, call, (METER, 2, 5, 1), (METER, 3, 5, 1)],
                                 [[0], [-6]])

    def test_the_two_ways_of_a_nomination_are_two_entries(self):
        self.assert_tail(house() + filled(94) + [
            (NOMINATE, 1, 2, 5, 4), (NOMINATE, 2, 1, 5, -4), (NOMINATE, 1, 3, 5, 4), (MATCHED, 1, 2, 5),
        ], [[0], [0], [-6], [0, 4]])


if __name__ == "__main__":
    unittest.main()
