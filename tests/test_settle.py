import unittest

from tests.helper import (
    AHEAD, BILLION, DOWN, HAND, LOCK, MARKET, METER, NOMINATE, RESERVE, SETTLE, UNRESERVE, UP, WEIGHT,
    HouseCase, ask, house,
)

# In quarter 5 hand 1 is 10 short, hand 2 is 4 long, and hand 3 delivers just what was called of it.
SHORT_AND_LONG = [(METER, 1, 5, -10), (METER, 2, 5, 4)]
UP_6 = SHORT_AND_LONG + [(METER, 3, 5, 6), (RESERVE, 5, 3, UP, 4, 20), (RESERVE, 5, 3, UP, 2, 31)]
DOWN_6 = SHORT_AND_LONG + [(METER, 3, 5, -6), (RESERVE, 5, 3, DOWN, 4, 20), (RESERVE, 5, 3, DOWN, 2, 9)]
SETTLED = [(SETTLE, 5)]


def owed(short_price, long_price, reserve):
    """Settle's answer where hand 1 is 10 short, hand 2 is 4 long, hand 3 owes that, and nobody has a weight."""
    numbers = [0, 10 * short_price, -4 * long_price, reserve]
    numbers[0] = -sum(numbers)
    listed = [number for pair in enumerate(numbers) if pair[1] != 0 for number in pair]
    return [0, len(listed) // 2] + listed


class SettleCase(HouseCase):
    def assert_settled(self, rules, told, answer):
        self.assert_tail(house(**rules) + told + SETTLED, [answer])


class Prices(SettleCase):
    def test_up_the_greatest_price(self):
        self.assert_settled({}, UP_6, owed(31, 31, -142))
        self.assert_settled({}, UP_6, [0, 4, 0, -44, 1, 310, 2, -124, 3, -142])

    def test_up_the_mean(self):
        # (4 * 20 + 2 * 31) / 6 is 23 and 4 / 6.
        self.assert_settled({"means": 1}, UP_6, owed(23, 23, -142))
        self.assert_settled({"means": 1}, UP_6, [0, 4, 0, 4, 1, 230, 2, -92, 3, -142])

    def test_down_the_least_price(self):
        self.assert_settled({}, DOWN_6, owed(9, 9, 98))

    def test_down_the_mean(self):
        # (4 * 20 + 2 * 9) / 6 is 16 and 2 / 6.
        self.assert_settled({"means": 1}, DOWN_6, owed(16, 16, 98))

    def test_a_mean_below_0_is_rounded_down(self):
        up = SHORT_AND_LONG + [(METER, 3, 5, 6), (RESERVE, 5, 3, UP, 4, -20), (RESERVE, 5, 3, UP, 2, -31)]
        self.assert_settled({"means": 1}, up, owed(-24, -24, 142))
        down = SHORT_AND_LONG + [(METER, 3, 5, -2), (RESERVE, 5, 3, DOWN, 1, -1), (RESERVE, 5, 3, DOWN, 1, -2)]
        self.assert_settled({"means": 1}, down, owed(-2, -2, -3))

    def test_only_those_in_the_direction_make_the_price(self):
        up = UP_6 + [(METER, 3, 5, 4), (RESERVE, 5, 3, DOWN, 2, 99)]
        self.assert_settled({}, up, owed(31, 31, -142 + 198))
        self.assert_settled({"means": 1}, up, owed(23, 23, -142 + 198))
        down = DOWN_6 + [(METER, 3, 5, -4), (RESERVE, 5, 3, UP, 2, -99)]
        self.assert_settled({}, down, owed(9, 9, 98 + 198))
        self.assert_settled({"means": 1}, down, owed(16, 16, 98 + 198))

    def test_only_those_of_the_quarter_make_the_price(self):
        others = [(RESERVE, 4, 3, UP, 99, 99), (RESERVE, 6, 3, DOWN, 99, -99), (AHEAD, 4, 50), (AHEAD, 6, 50)]
        self.assert_settled({}, UP_6 + others, owed(31, 31, -142))
        self.assert_settled({"two_prices": 1}, UP_6 + others, owed(31, 0, -142))

    def test_direction_0_with_calls_the_price_is_ahead(self):
        even = SHORT_AND_LONG + [(AHEAD, 5, 12), (RESERVE, 5, 3, UP, 6, 20), (RESERVE, 5, 3, DOWN, 6, 9)]
        for means in (0, 1):
            for two_prices in (0, 1):
                rules = {"means": means, "two_prices": two_prices, "add_on": 7}
                self.assert_settled(rules, even, owed(12, 12, -120 + 54))

    def test_direction_0_without_calls_the_price_is_ahead(self):
        self.assert_settled({"add_on": 7}, SHORT_AND_LONG + [(AHEAD, 5, 12)], owed(12, 12, 0))
        self.assert_settled({"add_on": 7}, SHORT_AND_LONG + [(AHEAD, 5, -12)], owed(-12, -12, 0))
        self.assert_settled({"add_on": 7}, SHORT_AND_LONG, [0, 0])

    def test_ahead_that_was_not_told_is_brought_to_low_and_high(self):
        self.assert_settled({"low": 5}, SHORT_AND_LONG, owed(5, 5, 0))
        self.assert_settled({"high": -5}, SHORT_AND_LONG, owed(-5, -5, 0))
        self.assert_settled({"low": 5, "two_prices": 1}, UP_6, owed(31, 5, -142))
        self.assert_settled({"low": -9, "high": -5, "two_prices": 1},
                            SHORT_AND_LONG + [(METER, 3, 5, 6), (RESERVE, 5, 3, UP, 6, -8)], owed(-5, -8, 48))


class AddOn(SettleCase):
    def test_threshold_just_reached_and_just_missed_up(self):
        self.assert_settled({"threshold": 6, "add_on": 3}, UP_6, owed(34, 34, -142))
        self.assert_settled({"threshold": 7, "add_on": 3}, UP_6, owed(31, 31, -142))
        self.assert_settled({"threshold": 6, "add_on": 3, "means": 1}, UP_6, owed(26, 26, -142))
        self.assert_settled({"threshold": 7, "add_on": 3, "means": 1}, UP_6, owed(23, 23, -142))

    def test_threshold_just_reached_and_just_missed_down(self):
        self.assert_settled({"threshold": 6, "add_on": 3}, DOWN_6, owed(6, 6, 98))
        self.assert_settled({"threshold": 7, "add_on": 3}, DOWN_6, owed(9, 9, 98))
        self.assert_settled({"threshold": 6, "add_on": 3, "means": 1}, DOWN_6, owed(13, 13, 98))
        self.assert_settled({"threshold": 7, "add_on": 3, "means": 1}, DOWN_6, owed(16, 16, 98))

    def test_what_counts_is_the_difference_of_up_and_down(self):
        up = UP_6 + [(METER, 3, 5, 4), (RESERVE, 5, 3, DOWN, 2, 10)]
        self.assert_settled({"threshold": 4, "add_on": 3}, up, owed(34, 34, -142 + 20))
        self.assert_settled({"threshold": 5, "add_on": 3}, up, owed(31, 31, -142 + 20))
        down = DOWN_6 + [(METER, 3, 5, -4), (RESERVE, 5, 3, UP, 2, 10)]
        self.assert_settled({"threshold": 4, "add_on": 3}, down, owed(6, 6, 98 - 20))
        self.assert_settled({"threshold": 5, "add_on": 3}, down, owed(9, 9, 98 - 20))

    def test_a_threshold_of_0_is_always_reached(self):
        one = SHORT_AND_LONG + [(METER, 3, 5, 1), (RESERVE, 5, 3, UP, 1, 20)]
        self.assert_settled({"threshold": 0, "add_on": 3}, one, owed(23, 23, -20))

    def test_the_price_is_brought_to_low_and_high(self):
        rules = {"low": 5, "high": 33, "threshold": 6}
        self.assert_settled(dict(rules, add_on=2), UP_6, owed(33, 33, -142))
        self.assert_settled(dict(rules, add_on=3), UP_6, owed(33, 33, -142))
        self.assert_settled(dict(rules, add_on=1000000), UP_6, owed(33, 33, -142))
        self.assert_settled(dict(rules, add_on=4), DOWN_6, owed(5, 5, 98))
        self.assert_settled(dict(rules, add_on=5), DOWN_6, owed(5, 5, 98))
        self.assert_settled(dict(rules, add_on=1000000), DOWN_6, owed(5, 5, 98))


class TwoPrices(SettleCase):
    def test_the_greater_for_those_short_the_lesser_for_those_long(self):
        self.assert_settled({"two_prices": 1}, UP_6 + [(AHEAD, 5, 12)], owed(31, 12, -142))
        self.assert_settled({"two_prices": 1}, UP_6 + [(AHEAD, 5, 50)], owed(50, 31, -142))
        self.assert_settled({"two_prices": 1}, DOWN_6 + [(AHEAD, 5, 12)], owed(12, 9, 98))
        self.assert_settled({"two_prices": 1}, DOWN_6 + [(AHEAD, 5, -12)], owed(9, -12, 98))

    def test_with_one_price_ahead_counts_for_nothing(self):
        self.assert_settled({"two_prices": 0}, UP_6 + [(AHEAD, 5, 12)], owed(31, 31, -142))
        self.assert_settled({"two_prices": 0}, DOWN_6 + [(AHEAD, 5, 12)], owed(9, 9, 98))

    def test_what_is_held_against_ahead_is_the_price_with_its_add_on_and_bounds(self):
        rules = {"two_prices": 1, "threshold": 6, "add_on": 30, "high": 40}
        self.assert_settled(rules, UP_6 + [(AHEAD, 5, 39)], owed(40, 39, -142))
        self.assert_settled({"two_prices": 1, "threshold": 6, "add_on": 3}, DOWN_6 + [(AHEAD, 5, 7)], owed(7, 6, 98))


class Imbalances(SettleCase):
    def test_metered_less_position_less_called(self):
        # Hand 1: 7 - (20 + 3) - (2 - 5) = -13; hand 2: 40 - (-3) - 0 = 43. Down 5, up 2: the price is 10.
        self.assert_settled({}, [
            (MARKET, 1, 5, 20), (NOMINATE, 1, 2, 5, 3), (NOMINATE, 2, 1, 5, -8), (METER, 1, 5, 7), (METER, 2, 5, 40),
            (RESERVE, 5, 1, UP, 2, 70), (RESERVE, 5, 1, DOWN, 5, 10),
        ], [0, 3, 0, 390, 1, 130 - 140 + 50, 2, -430])

    def test_a_price_below_0_turns_who_pays(self):
        self.assert_settled({}, SHORT_AND_LONG + [(AHEAD, 5, -7)], [0, 3, 0, 42, 1, -70, 2, 28])

    def test_those_called_are_paid_or_pay_by_their_own_prices(self):
        self.assert_settled({}, [
            (METER, 1, 5, 4), (METER, 2, 5, 2), (METER, 3, 5, -1), (RESERVE, 5, 1, UP, 4, 20),
            (RESERVE, 5, 2, UP, 2, -31), (RESERVE, 5, 3, DOWN, 1, -5),
        ], [0, 4, 0, 23, 1, -80, 2, 62, 3, -5])

    def test_the_greatest_numbers(self):
        # Hand 1 was called up 62 * 10^9 and sold 10^9, and metered -10^9; hand 2 is balanced.
        calls = house(2) + [(RESERVE, 5, 1, UP, BILLION, 1000000)] * 62
        calls += [(MARKET, 1, 5, BILLION), (METER, 1, 5, -BILLION), (WEIGHT, 2, 5, BILLION), (SETTLE, 5)]
        gross = 64 * 10 ** 15 - 62 * 10 ** 15
        self.assert_tail(calls, [[0, 2, 1, gross, 2, -gross]])


class Rest(SettleCase):
    def shares(self, rest, weights):
        """The last hand has no weight, and its imbalance at the price 1 makes the rest."""
        hands = len(weights) + 1
        told = [(AHEAD, 5, 1), (METER, hands, 5, rest)]
        told += [(WEIGHT, hand, 5, weight) for hand, weight in enumerate(weights, start=1)]
        answer = ask(house(hands) + told + SETTLED)[-1]
        booked = dict(zip(answer[2::2], answer[3::2]))
        self.assertEqual(answer[:2], [0, len(booked)])
        self.assertEqual(booked.pop(hands, 0), -rest)
        self.assertNotIn(0, booked)
        self.assertEqual(list(booked), sorted(booked))
        return [booked.get(hand, 0) for hand in range(1, hands)]

    def test_it_divides_evenly(self):
        self.assertEqual(self.shares(12, [1, 2, 3]), [2, 4, 6])
        self.assertEqual(self.shares(0, [1, 2, 3]), [0, 0, 0])

    def test_what_lacks_goes_to_the_greatest_remainders(self):
        # 10/7 leaves 3, 20/7 leaves 6, 40/7 leaves 5.
        self.assertEqual(self.shares(10, [1, 2, 4]), [1, 3, 6])
        self.assertEqual(self.shares(-10, [1, 2, 4]), [-1, -3, -6])

    def test_with_equal_remainders_the_earlier_one_is_first(self):
        self.assertEqual(self.shares(10, [1, 1, 1]), [4, 3, 3])
        self.assertEqual(self.shares(11, [1, 1, 1]), [4, 4, 3])
        self.assertEqual(self.shares(-10, [1, 1, 1]), [-4, -3, -3])
        self.assertEqual(self.shares(-11, [1, 1, 1]), [-4, -4, -3])
        self.assertEqual(self.shares(9, [2, 1, 2, 1]), [3, 2, 3, 1])
        self.assertEqual(self.shares(1, [0, 5, 5]), [0, 1, 0])

    def test_no_weight_no_share(self):
        self.assertEqual(self.shares(7, [0, 3, 0]), [0, 7, 0])
        self.assertEqual(self.shares(-7, [0, 3, 0]), [0, -7, 0])

    def test_great_weights(self):
        self.assertEqual(self.shares(10 ** 9, [10 ** 9, 1]), [999999999, 1])
        self.assertEqual(self.shares(10 ** 9 - 1, [10 ** 9, 10 ** 9]), [500000000, 499999999])

    def test_all_weights_0_nobody_owes_the_rest(self):
        self.assert_settled({}, [(AHEAD, 5, 1), (METER, 2, 5, 10)], [0, 2, 0, 10, 2, -10])
        self.assert_settled({}, [(AHEAD, 5, 1), (METER, 2, 5, -10)], [0, 2, 0, -10, 2, 10])

    def test_weights_of_another_quarter_count_for_nothing(self):
        self.assert_settled({}, [(AHEAD, 5, 1), (METER, 2, 5, 10), (WEIGHT, 1, 6, 1)], [0, 2, 0, 10, 2, -10])

    def test_a_share_comes_on_top_of_the_gross(self):
        self.assert_settled({}, [(AHEAD, 5, 1), (METER, 2, 5, 10), (WEIGHT, 2, 5, 1)], [0, 0])
        self.assert_settled({}, [(AHEAD, 5, 1), (METER, 2, 5, 10), (WEIGHT, 2, 5, 1), (WEIGHT, 3, 5, 1)],
                            [0, 2, 2, -5, 3, 5])


class Booking(HouseCase):
    TOLD = house() + [(AHEAD, 5, 2), (METER, 1, 5, -3)]

    def test_a_second_settle_answers_differences_only(self):
        self.assert_tail(self.TOLD + [(SETTLE, 5), (SETTLE, 5), (METER, 2, 5, 1), (SETTLE, 5), (METER, 1, 5, -4),
                                      (SETTLE, 5), (METER, 1, 5, 0), (METER, 2, 5, 0), (SETTLE, 5), (SETTLE, 5)],
                         [[0, 2, 0, -6, 1, 6], [0, 0], [0], [0, 2, 0, 2, 2, -2], [0],
                          [0, 2, 0, -2, 1, 2], [0], [0], [0, 3, 0, 6, 1, -8, 2, 2], [0, 0]])

    def test_from_nobody_to_those_with_weights(self):
        self.assert_tail(self.TOLD + [(SETTLE, 5), (WEIGHT, 3, 5, 1), (SETTLE, 5)],
                         [[0, 2, 0, -6, 1, 6], [0], [0, 2, 0, 6, 3, -6]])

    def test_a_hand_that_came_since_grows_from_0(self):
        self.assert_tail(self.TOLD + [(SETTLE, 5), (HAND,), (SETTLE, 5), (METER, 4, 5, 5), (SETTLE, 5), (SETTLE, 5)],
                         [[0, 4], [0, 0], [0], [0, 2, 0, 10, 4, -10], [0, 0]])

    def test_quarters_are_booked_apart(self):
        self.assert_tail(self.TOLD + [(METER, 2, 6, 9), (AHEAD, 6, 1), (SETTLE, 5), (SETTLE, 6), (SETTLE, 5)],
                         [[0, 2, 0, -6, 1, 6], [0, 2, 0, 9, 2, -9], [0, 0]])

    def test_without_hands(self):
        self.assert_tail(house(0) + [(AHEAD, 5, 2), (SETTLE, 5)], [[0, 0]])

    def test_a_quarter_for_which_everybody_owes_0_is_booked_all_the_same(self):
        self.assert_tail(house() + [(SETTLE, 5), (LOCK, 5)], [[0, 0], [0]])

    def test_reserve_that_goes_is_taken_back(self):
        self.assert_tail(self.TOLD + [(RESERVE, 5, 2, UP, 1, 9), (METER, 2, 5, 1), (SETTLE, 5), (UNRESERVE, 1),
                                      (SETTLE, 5)],
                         [[0, 3, 0, -18, 1, 27, 2, -9], [0], [0, 3, 0, 14, 1, -21, 2, 7]])

    def test_locked(self):
        self.assert_refused(self.TOLD + [(SETTLE, 5), (LOCK, 5)], (SETTLE, 5), -7, [(LOCK, 5), (SETTLE, 6)])

    def test_the_64th_and_the_65th_booked_quarter(self):
        full = house() + [(SETTLE, quarter) for quarter in range(64)]
        self.assert_last(full, [0, 0])
        self.assert_refused(full, (SETTLE, 64), -6, [(LOCK, 64), (SETTLE, 63), (SETTLE, 64)])

    def test_a_booked_quarter_may_be_settled_again_when_64_are_booked(self):
        full = house() + [(SETTLE, quarter) for quarter in range(64)]
        self.assert_tail(full + [(SETTLE, 0), (AHEAD, 63, 1), (METER, 1, 63, 1), (SETTLE, 63), (LOCK, 63)],
                         [[0, 0], [0], [0], [0, 2, 0, 1, 1, -1], [0]])

    def test_locked_quarters_count_as_booked(self):
        full = house() + [call for quarter in range(64) for call in ((SETTLE, quarter), (LOCK, quarter))]
        self.assertEqual(ask(full + [(SETTLE, 64), (SETTLE, 3)])[-2:], [[-6], [-7]])


if __name__ == "__main__":
    unittest.main()
