import unittest

from tests.helper import (
    AHEAD, HAND, LOCK, MARKET, MATCHED, METER, NOMINATE, POSITION, RESERVE, SETTLE, UNRESERVE, UP, WEIGHT,
    HouseCase, ask, house,
)

TOLD = house() + [(AHEAD, 5, 2), (METER, 1, 5, -3), (RESERVE, 5, 2, UP, 1, 9), (RESERVE, 6, 2, UP, 1, 9)]
BOOKED = TOLD + [(SETTLE, 5)]
LOCKED = BOOKED + [(LOCK, 5)]
PROBES = [(SETTLE, 5), (SETTLE, 6), (LOCK, 5), (MARKET, 1, 5, 1), (LOCK, 6)]


class Locking(HouseCase):
    def test_booked_and_the_same(self):
        self.assert_tail(LOCKED, [[0]])

    def test_nothing_booked(self):
        self.assert_refused(TOLD, (LOCK, 5), -11, PROBES)
        self.assert_refused(BOOKED, (LOCK, 6), -11, PROBES)
        self.assert_refused(house(), (LOCK, 5), -11, PROBES)

    def test_locked_already(self):
        self.assert_refused(LOCKED, (LOCK, 5), -7, PROBES)

    def test_booked_but_changed_since(self):
        for change in [(METER, 1, 5, -4), (MARKET, 3, 5, 1), (WEIGHT, 1, 5, 1), (RESERVE, 5, 3, UP, 1, 10),
                       (UNRESERVE, 1)]:
            with self.subTest(change=change):
                self.assert_refused(BOOKED + [change], (LOCK, 5), -11, PROBES)

    def test_changed_and_settled_again(self):
        self.assert_tail(BOOKED + [(METER, 1, 5, -4), (SETTLE, 5), (LOCK, 5)], [[0, 2, 0, -9, 1, 9], [0]])

    def test_changed_and_changed_back(self):
        self.assert_tail(BOOKED + [(METER, 1, 5, -4), (METER, 1, 5, -3), (LOCK, 5)], [[0]])

    def test_a_change_that_changes_nothing_of_what_is_owed(self):
        self.assert_tail(BOOKED + [(AHEAD, 5, 3), (NOMINATE, 1, 2, 5, 3), (HAND,), (LOCK, 5)], [[0]])

    def test_a_hand_that_came_since_and_owes(self):
        came = BOOKED + [(HAND,), (METER, 4, 5, 1)]
        self.assert_refused(came, (LOCK, 5), -11, PROBES)

    def test_only_the_rest_has_moved(self):
        # Nobody owed the rest; with a weight it is hand 3 that owes it.
        self.assert_refused(BOOKED + [(WEIGHT, 3, 5, 1)], (LOCK, 5), -11, PROBES)

    def test_what_is_refused_afterwards(self):
        for call in [(MARKET, 1, 5, 1), (METER, 1, 5, -3), (WEIGHT, 1, 5, 1), (AHEAD, 5, 2), (NOMINATE, 1, 2, 5, 1),
                     (RESERVE, 5, 1, UP, 1, 9), (UNRESERVE, 1), (SETTLE, 5), (LOCK, 5)]:
            with self.subTest(call=call):
                self.assert_refused(LOCKED, call, -7, PROBES)

    def test_what_is_not_refused_afterwards(self):
        self.assert_tail(LOCKED + [(POSITION, 1, 5), (MATCHED, 1, 2, 5), (HAND,), (METER, 1, 6, 1), (UNRESERVE, 2),
                                   (SETTLE, 6), (LOCK, 6)],
                         [[0, 0, 0, 0], [0, 0], [0, 4], [0], [0], [0, 0], [0]])

    def test_several_quarters(self):
        calls = house() + [(SETTLE, 0), (SETTLE, 9999), (LOCK, 9999), (METER, 1, 0, 1), (METER, 1, 9999, 1), (LOCK, 0)]
        self.assertEqual(ask(calls)[4:], [[0, 0], [0, 0], [0], [0], [-7], [0]])


if __name__ == "__main__":
    unittest.main()
