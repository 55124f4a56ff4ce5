import unittest

from tests.helper import (
    AHEAD, BILLION, DOWN, IMBALANCE, LOCK, MARKET, METER, NOMINATE, PRICES, RESERVE, SETTLE, SYSTEM, UNRESERVE, UP,
    WEIGHT, HouseCase, ask, house,
)

# Hand 1: position 20 + 3, called 2 - 5, imbalance 7 - 23 + 3; hand 2: position -3, imbalance 40 + 3.
TOLD = [
    (MARKET, 1, 5, 20), (NOMINATE, 1, 2, 5, 3), (NOMINATE, 2, 1, 5, -8), (METER, 1, 5, 7), (METER, 2, 5, 40),
    (RESERVE, 5, 1, UP, 2, 70), (RESERVE, 5, 1, DOWN, 5, 10),
]
UP_6 = [(RESERVE, 5, 3, UP, 4, 20), (RESERVE, 5, 1, UP, 2, 31)]
DOWN_6 = [(RESERVE, 5, 3, DOWN, 4, 20), (RESERVE, 5, 1, DOWN, 2, 9)]
GREATEST = (
    house(32) + [(NOMINATE, 1, other, 5, -BILLION) for other in range(2, 33)]
    + [(NOMINATE, other, 1, 5, BILLION) for other in range(2, 33)]
    + [(MARKET, 1, 5, -BILLION), (METER, 1, 5, BILLION)] + [(RESERVE, 5, 1, DOWN, BILLION, -1000000)] * 64
)


class Imbalance(HouseCase):
    def test_metered_less_position_less_called(self):
        self.assert_tail(house() + TOLD + [(IMBALANCE, 1, 5), (IMBALANCE, 2, 5), (IMBALANCE, 3, 5)],
                         [[0, -13, -3], [0, 43, 0], [0, 0, 0]])

    def test_nothing_told(self):
        self.assert_tail(house() + TOLD + [(IMBALANCE, 1, 6), (IMBALANCE, 3, 0)], [[0, 0, 0]] * 2)

    def test_each_part_alone(self):
        for told, answer in [
            ((METER, 1, 5, 9), [0, 9, 0]), ((METER, 1, 5, -9), [0, -9, 0]), ((MARKET, 1, 5, 9), [0, -9, 0]),
            ((RESERVE, 5, 1, UP, 9, 1), [0, -9, 9]), ((RESERVE, 5, 1, DOWN, 9, 1), [0, 9, -9]),
            ((NOMINATE, 1, 2, 5, 9), [0, 0, 0]), ((WEIGHT, 1, 5, 9), [0, 0, 0]), ((AHEAD, 5, 9), [0, 0, 0]),
        ]:
            with self.subTest(told=told):
                self.assert_tail(house() + [told, (IMBALANCE, 1, 5)], [answer])

    def test_only_calls_of_its_own_in_this_quarter(self):
        self.assert_tail(house() + [(RESERVE, 5, 2, UP, 9, 1), (RESERVE, 6, 1, UP, 8, 1), (RESERVE, 5, 1, UP, 7, 1),
                                    (IMBALANCE, 1, 5), (IMBALANCE, 2, 5), (IMBALANCE, 1, 6)],
                         [[0, -7, 7], [0, -9, 9], [0, -8, 8]])

    def test_the_greatest_numbers(self):
        self.assert_tail(GREATEST + [(IMBALANCE, 1, 5), (IMBALANCE, 32, 5)],
                         [[0, 97 * BILLION, -64 * BILLION], [0, -BILLION, 0]])

    def test_a_locked_quarter_is_asked_like_others(self):
        self.assert_tail(house() + TOLD + [(SETTLE, 5), (LOCK, 5), (IMBALANCE, 1, 5)], [[0, -13, -3]])

    def test_no_such_hand(self):
        self.assert_refused(house() + TOLD, (IMBALANCE, 4, 5), -5, [(IMBALANCE, 1, 5)])


class Prices(HouseCase):
    def assert_prices(self, rules, told, answer):
        self.assert_tail(house(**rules) + told + [(PRICES, 5)], [[0] + answer])

    def test_one_price_up(self):
        self.assert_prices({}, UP_6 + [(AHEAD, 5, 12)], [1, 31, 31, 31])
        self.assert_prices({"means": 1}, UP_6 + [(AHEAD, 5, 12)], [1, 23, 23, 23])

    def test_one_price_down(self):
        self.assert_prices({}, DOWN_6 + [(AHEAD, 5, 12)], [-1, 9, 9, 9])
        self.assert_prices({"means": 1}, DOWN_6 + [(AHEAD, 5, 12)], [-1, 16, 16, 16])

    def test_one_more_up_or_down_makes_the_direction(self):
        self.assert_prices({}, UP_6 + [(RESERVE, 5, 2, DOWN, 5, 1)], [1, 31, 31, 31])
        self.assert_prices({}, UP_6 + [(RESERVE, 5, 2, DOWN, 6, 1)], [0, 0, 0, 0])
        self.assert_prices({}, UP_6 + [(RESERVE, 5, 2, DOWN, 7, 1)], [-1, 1, 1, 1])

    def test_two_prices(self):
        self.assert_prices({"two_prices": 1}, UP_6 + [(AHEAD, 5, 12)], [1, 31, 31, 12])
        self.assert_prices({"two_prices": 1}, UP_6 + [(AHEAD, 5, 40)], [1, 31, 40, 31])
        self.assert_prices({"two_prices": 1}, DOWN_6 + [(AHEAD, 5, 12)], [-1, 9, 12, 9])
        self.assert_prices({"two_prices": 1}, DOWN_6 + [(AHEAD, 5, -4)], [-1, 9, 9, -4])
        self.assert_prices({"two_prices": 1}, DOWN_6, [-1, 9, 9, 0])

    def test_direction_0(self):
        even = [(RESERVE, 5, 1, UP, 6, 20), (RESERVE, 5, 2, DOWN, 6, 9)]
        for two_prices in (0, 1):
            self.assert_prices({"two_prices": two_prices, "add_on": 7}, even + [(AHEAD, 5, 12)], [0, 12, 12, 12])
            self.assert_prices({"two_prices": two_prices, "add_on": 7}, [(AHEAD, 5, -12)], [0, -12, -12, -12])

    def test_nothing_told(self):
        self.assert_prices({}, [(AHEAD, 6, 12), (RESERVE, 4, 1, UP, 6, 20)], [0, 0, 0, 0])
        self.assert_prices({"low": 5}, [], [0, 5, 5, 5])
        self.assert_prices({"high": -5}, [], [0, -5, -5, -5])

    def test_a_mean_below_0_is_rounded_down(self):
        self.assert_prices({"means": 1}, [(RESERVE, 5, 1, UP, 1, -1), (RESERVE, 5, 1, UP, 1, -2)], [1, -2, -2, -2])
        self.assert_prices({"means": 1}, [(RESERVE, 5, 1, DOWN, 1, -1), (RESERVE, 5, 1, DOWN, 1, -2)],
                           [-1, -2, -2, -2])

    def test_threshold_just_reached_and_just_missed(self):
        self.assert_prices({"threshold": 6, "add_on": 3}, UP_6, [1, 34, 34, 34])
        self.assert_prices({"threshold": 7, "add_on": 3}, UP_6, [1, 31, 31, 31])
        self.assert_prices({"threshold": 6, "add_on": 3}, DOWN_6, [-1, 6, 6, 6])
        self.assert_prices({"threshold": 7, "add_on": 3}, DOWN_6, [-1, 9, 9, 9])

    def test_brought_to_low_and_high(self):
        rules = {"low": 5, "high": 33, "add_on": 1000000}
        self.assert_prices(rules, UP_6, [1, 33, 33, 33])
        self.assert_prices(rules, DOWN_6, [-1, 5, 5, 5])
        self.assert_prices(dict(rules, two_prices=1), UP_6, [1, 33, 33, 5])

    def test_without_hands(self):
        self.assert_tail(house(0) + [(AHEAD, 5, 12), (PRICES, 5)], [[0, 0, 12, 12, 12]])

    def test_what_went_counts_no_more(self):
        self.assertEqual(ask(house() + UP_6 + [(UNRESERVE, 2), (PRICES, 5), (UNRESERVE, 1), (PRICES, 5)])[-4:],
                         [[0], [0, 1, 20, 20, 20], [0], [0, 0, 0, 0, 0]])


class System(HouseCase):
    def test_all_six(self):
        self.assert_tail(house() + TOLD + [(WEIGHT, 2, 5, 4), (WEIGHT, 3, 5, 9), (SYSTEM, 5)],
                         [[0, 2, 5, 30, 20, -390, 13]])

    def test_two_prices(self):
        # Hand 1 buys 13 at 15, hand 2 sells 43 at 10.
        self.assert_tail(house(two_prices=1) + TOLD + [(AHEAD, 5, 15), (SYSTEM, 5)],
                         [[0, 2, 5, 30, 20, 13 * 15 - 43 * 10 - 140 + 50, 0]])

    def test_matched_amounts_make_0_and_unmatched_ones_count_for_nothing(self):
        self.assert_tail(house() + [(NOMINATE, 1, 2, 5, 3), (NOMINATE, 2, 1, 5, -8), (NOMINATE, 3, 1, 5, 7),
                                    (SYSTEM, 5)], [[0, 0, 0, 0, 0, 0, 0]])

    def test_without_hands(self):
        self.assert_tail(house(0) + [(SYSTEM, 5), (AHEAD, 5, 12), (SYSTEM, 5)], [[0] * 7, [0], [0] * 7])

    def test_nothing_told_of_the_quarter(self):
        self.assert_tail(house() + TOLD + [(SYSTEM, 4), (SYSTEM, 9999)], [[0] * 7] * 2)
        self.assert_tail(house(low=5) + [(SYSTEM, 4)], [[0] * 7])

    def test_the_greatest_numbers(self):
        # The price is -10^6: hand 1 sells 97 * 10^9 at it, 31 hands buy 10^9 each, and the calls down are paid for.
        gross = (97 - 31 - 64) * 10 ** 15
        self.assert_tail(GREATEST + [(WEIGHT, hand, 5, BILLION) for hand in range(1, 33)] + [(SYSTEM, 5)],
                         [[0, 0, 64 * BILLION, 66 * BILLION, -BILLION, gross, 32 * BILLION]])


if __name__ == "__main__":
    unittest.main()
