import unittest

from tests.helper import (
    ACCOUNT, AHEAD, BOOKED, HAND, LOCK, MARKET, METER, NOMINATE, PENDING, RESERVE, SETTLE, SUMS, UNRESERVE, UP, WEIGHT,
    HouseCase, house,
)

# In quarter 5 hand 1 owes 6, and nobody the rest.
TOLD = house() + [(AHEAD, 5, 2), (METER, 1, 5, -3)]
SETTLED = TOLD + [(SETTLE, 5)]
# In quarter 7 hand 2 gets 4, and hand 3 owes it.
TWO_QUARTERS = SETTLED + [(AHEAD, 7, 1), (METER, 2, 7, 4), (WEIGHT, 3, 7, 1), (SETTLE, 7)]
ACCOUNTS = [(ACCOUNT, 0), (ACCOUNT, 1), (ACCOUNT, 2), (ACCOUNT, 3)]


class Booked(HouseCase):
    def test_nothing_booked(self):
        self.assert_tail(TOLD + [(BOOKED, 5)], [[0, 0]])
        self.assert_tail(SETTLED + [(BOOKED, 4), (BOOKED, 6)], [[0, 0]] * 2)

    def test_booked_and_not_locked(self):
        self.assert_tail(SETTLED + [(BOOKED, 5)], [[0, 1, 0, 2, 0, -6, 1, 6]])

    def test_locked(self):
        self.assert_tail(SETTLED + [(LOCK, 5), (BOOKED, 5)], [[0, 1, 1, 2, 0, -6, 1, 6]])

    def test_only_the_quarter_itself_is_locked(self):
        self.assert_tail(TWO_QUARTERS + [(LOCK, 5), (BOOKED, 7), (BOOKED, 5)],
                         [[0], [0, 1, 0, 2, 2, -4, 3, 4], [0, 1, 1, 2, 0, -6, 1, 6]])

    def test_everybody_owes_0(self):
        self.assert_tail(house() + [(SETTLE, 5), (BOOKED, 5)], [[0, 0], [0, 1, 0, 0]])
        self.assert_tail(house() + [(SETTLE, 5), (LOCK, 5), (BOOKED, 5)], [[0], [0, 1, 1, 0]])
        self.assert_tail(house(0) + [(SETTLE, 5), (BOOKED, 5)], [[0, 0], [0, 1, 0, 0]])

    def test_what_is_told_since_changes_nothing_of_it(self):
        self.assert_tail(SETTLED + [(METER, 1, 5, -4), (WEIGHT, 1, 5, 1), (BOOKED, 5)], [[0, 1, 0, 2, 0, -6, 1, 6]])

    def test_settled_again_it_is_whole_and_not_the_difference(self):
        self.assert_tail(SETTLED + [(METER, 1, 5, -4), (METER, 2, 5, 1), (SETTLE, 5), (BOOKED, 5)],
                         [[0, 2, 1, 2, 2, -2], [0, 1, 0, 3, 0, -6, 1, 8, 2, -2]])

    def test_a_hand_that_came_after_it(self):
        came = SETTLED + [(HAND,), (METER, 4, 5, 5)]
        self.assert_tail(came + [(BOOKED, 5)], [[0, 1, 0, 2, 0, -6, 1, 6]])
        self.assert_tail(came + [(SETTLE, 5), (BOOKED, 5)],
                         [[0, 2, 0, 10, 4, -10], [0, 1, 0, 3, 0, 4, 1, 6, 4, -10]])

    def test_a_refused_settle_books_nothing(self):
        full = house() + [(SETTLE, quarter) for quarter in range(64)]
        self.assert_refused(full, (SETTLE, 64), -6, [(BOOKED, 64), (BOOKED, 63), (SUMS,), (PENDING,)])


class Account(HouseCase):
    def test_nothing_booked(self):
        self.assert_tail(TOLD + ACCOUNTS, [[0, 0]] * 4)
        self.assert_tail(house(0) + [(ACCOUNT, 0)], [[0, 0]])

    def test_one_booked_quarter(self):
        self.assert_tail(SETTLED + ACCOUNTS, [[0, -6], [0, 6], [0, 0], [0, 0]])

    def test_several_booked_quarters(self):
        self.assert_tail(TWO_QUARTERS + ACCOUNTS, [[0, -6], [0, 6], [0, -4], [0, 4]])
        self.assert_tail(TWO_QUARTERS + [(AHEAD, 0, 3), (METER, 1, 0, 7), (METER, 3, 0, -2), (SETTLE, 0)] + ACCOUNTS,
                         [[0, -6 + 15], [0, 6 - 21], [0, -4], [0, 4 + 6]])

    def test_one_settled_again(self):
        self.assert_tail(TWO_QUARTERS + [(METER, 1, 5, -4)] + ACCOUNTS, [[0, -6], [0, 6], [0, -4], [0, 4]])
        self.assert_tail(TWO_QUARTERS + [(METER, 1, 5, -4), (SETTLE, 5)] + ACCOUNTS,
                         [[0, -8], [0, 8], [0, -4], [0, 4]])
        self.assert_tail(TWO_QUARTERS + [(SETTLE, 5), (SETTLE, 5)] + ACCOUNTS, [[0, -6], [0, 6], [0, -4], [0, 4]])

    def test_locked_quarters_count_as_others(self):
        self.assert_tail(TWO_QUARTERS + [(LOCK, 7), (LOCK, 5)] + ACCOUNTS, [[0, -6], [0, 6], [0, -4], [0, 4]])

    def test_a_hand_that_came_after_the_bookings(self):
        came = TWO_QUARTERS + [(HAND,), (METER, 4, 5, 5)]
        self.assert_tail(came + [(ACCOUNT, 4)], [[0, 0]])
        self.assert_tail(came + [(SETTLE, 5), (ACCOUNT, 4), (ACCOUNT, 0)], [[0, -10], [0, 4]])
        self.assert_tail(came + [(METER, 4, 7, 2), (SETTLE, 5), (SETTLE, 7), (ACCOUNT, 4), (ACCOUNT, 3)],
                         [[0, -12], [0, 6]])

    def test_no_such_hand(self):
        self.assert_refused(SETTLED, (ACCOUNT, 4), -5, ACCOUNTS)
        self.assert_refused(house(0), (ACCOUNT, 1), -5, [(ACCOUNT, 0)])
        self.assert_refused(house(31), (ACCOUNT, 32), -5, [(ACCOUNT, 31)])


class Pending(HouseCase):
    def test_nothing_booked(self):
        self.assert_tail(TOLD + [(PENDING,)], [[0, 0]])
        self.assert_tail(house(0) + [(PENDING,)], [[0, 0]])

    def test_nothing_changed_since(self):
        self.assert_tail(TWO_QUARTERS + [(PENDING,)], [[0, 0]])

    def test_changed_since(self):
        for change in [(METER, 1, 5, -4), (MARKET, 3, 5, 1), (WEIGHT, 1, 5, 1), (WEIGHT, 3, 5, 1), (AHEAD, 5, 3),
                       (RESERVE, 5, 3, UP, 1, 10)]:
            with self.subTest(change=change):
                self.assert_tail(TWO_QUARTERS + [change, (PENDING,)], [[0, 1, 5]])

    def test_changed_and_settled_or_changed_back(self):
        self.assert_tail(TWO_QUARTERS + [(METER, 1, 5, -4), (SETTLE, 5), (PENDING,)], [[0, 0]])
        self.assert_tail(TWO_QUARTERS + [(METER, 1, 5, -4), (METER, 1, 5, -3), (PENDING,)], [[0, 0]])
        self.assert_tail(TWO_QUARTERS + [(RESERVE, 7, 1, UP, 1, 2), (PENDING,), (UNRESERVE, 1), (PENDING,)],
                         [[0, 1, 7], [0], [0, 0]])

    def test_a_change_that_changes_nothing_of_what_is_owed(self):
        self.assert_tail(TWO_QUARTERS + [(NOMINATE, 1, 2, 5, 3), (WEIGHT, 3, 7, 9), (PENDING,)], [[0, 0]])

    def test_only_booked_quarters(self):
        self.assert_tail(TWO_QUARTERS + [(METER, 1, 6, 3), (AHEAD, 6, 3), (PENDING,)], [[0, 0]])

    def test_the_least_first_in_whatever_order_they_were_booked(self):
        order = [9999, 3, 41, 0, 40, 7]
        booked = house() + [(SETTLE, quarter) for quarter in order]
        told = [call for quarter in (41, 0, 9999, 3) for call in ((AHEAD, quarter, 1), (METER, 1, quarter, 1))]
        self.assert_tail(booked + told + [(PENDING,)], [[0, 4, 0, 3, 41, 9999]])
        self.assert_tail(booked + told + [(SETTLE, 3), (PENDING,)], [[0, 3, 0, 41, 9999]])

    def test_a_hand_that_came_since(self):
        self.assert_tail(TWO_QUARTERS + [(HAND,), (PENDING,)], [[0, 0]])
        self.assert_tail(TWO_QUARTERS + [(HAND,), (METER, 4, 7, 1), (PENDING,)], [[0, 1, 7]])
        # Its weight alone makes it owe some of the rest.
        self.assert_tail(TWO_QUARTERS + [(HAND,), (WEIGHT, 4, 5, 1), (PENDING,)], [[0, 1, 5]])

    def test_a_hand_that_came_since_and_whose_parts_make_0(self):
        # Hand 2 owes nothing in all, as its own gross comes back as its share.
        self.assert_tail(house(1) + [(AHEAD, 5, 1), (SETTLE, 5), (HAND,), (METER, 2, 5, 9), (WEIGHT, 2, 5, 1),
                                     (PENDING,)], [[0, 0]])

    def test_locked_quarters(self):
        locked = TWO_QUARTERS + [(LOCK, 5), (LOCK, 7)]
        self.assert_tail(locked + [(PENDING,), (HAND,), (PENDING,)], [[0, 0], [0, 4], [0, 0]])
        self.assert_tail(TWO_QUARTERS + [(LOCK, 5), (METER, 2, 7, 5), (PENDING,)], [[0, 1, 7]])

    def test_64_of_them(self):
        calls = house(1) + [(SETTLE, quarter) for quarter in reversed(range(64))]
        calls += [(RESERVE, quarter, 1, UP, 1, 5) for quarter in range(64)]
        # What was called of the hand and not delivered it buys at the price at which it sold: nothing is owed.
        self.assert_tail(calls + [(PENDING,)], [[0, 0]])
        calls += [(METER, 1, quarter, 1) for quarter in range(64)]
        self.assert_tail(calls + [(PENDING,)], [[0, 64] + list(range(64))])


class Sums(HouseCase):
    def test_a_new_house(self):
        self.assert_tail(house(0) + [(SUMS,)], [[0, 0, 0, 0, 0]])

    def test_each_of_them(self):
        self.assert_tail(TWO_QUARTERS + [(RESERVE, 5, 1, UP, 1, 1), (SUMS,)], [[0, 3, 5, 1, 2]])

    def test_each_sort_of_entry(self):
        sorts = [(MARKET, 1, 5, 4), (METER, 1, 5, 4), (WEIGHT, 1, 5, 4), (AHEAD, 5, 4), (NOMINATE, 1, 2, 5, 4),
                 (NOMINATE, 2, 1, 5, 4), (MARKET, 2, 5, 4), (MARKET, 1, 6, 4)]
        for count in range(1, len(sorts) + 1):
            self.assert_tail(house() + sorts[:count] + [(SUMS,)], [[0, 3, count, 0, 0]])

    def test_an_entry_changed_and_set_to_0_again(self):
        self.assert_tail(TOLD + [(METER, 1, 5, 8), (SUMS,), (METER, 1, 5, 0), (SUMS,), (METER, 1, 5, 0), (SUMS,)],
                         [[0, 3, 2, 0, 0], [0], [0, 3, 1, 0, 0], [0], [0, 3, 1, 0, 0]])

    def test_an_entry_of_0(self):
        self.assert_tail(house() + [(MARKET, 1, 5, 0), (AHEAD, 5, 0), (SUMS,)], [[0, 3, 0, 0, 0]])

    def test_a_call_of_reserve_that_went(self):
        two = house() + [(RESERVE, 5, 1, UP, 1, 1), (RESERVE, 5, 1, UP, 1, 1)]
        self.assert_tail(two + [(SUMS,), (UNRESERVE, 1), (SUMS,), (RESERVE, 5, 1, UP, 1, 1), (SUMS,)],
                         [[0, 3, 0, 2, 0], [0], [0, 3, 0, 1, 0], [0, 3], [0, 3, 0, 2, 0]])

    def test_a_quarter_settled_twice_and_locked(self):
        self.assert_tail(SETTLED + [(SUMS,), (SETTLE, 5), (SUMS,), (LOCK, 5), (SUMS,)],
                         [[0, 3, 2, 0, 1], [0, 0], [0, 3, 2, 0, 1], [0], [0, 3, 2, 0, 1]])

    def test_as_many_as_there_may_be(self):
        calls = house(32) + [(METER, 1 + number % 32, number, 1) for number in range(96)]
        calls += [(RESERVE, 5, 1, UP, 1, 1)] * 64 + [(SETTLE, quarter) for quarter in range(64)]
        self.assert_tail(calls + [(SUMS,)], [[0, 32, 96, 64, 64]])

    def test_refused_calls_count_for_nothing(self):
        for call, number in [((MARKET, 4, 5, 1), -5), ((NOMINATE, 1, 1, 5, 1), -10), ((LOCK, 6), -11),
                             ((RESERVE, 5, 4, UP, 1, 1), -5), ((UNRESERVE, 1), -8)]:
            self.assert_refused(SETTLED, call, number, [(SUMS,), (PENDING,), (BOOKED, 5)])


if __name__ == "__main__":
    unittest.main()
