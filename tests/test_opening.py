import unittest

from tests.helper import (
    AHEAD, HAND, MARKET, METER, OPEN, POSITION, RESERVE, SETTLE, UP, HouseCase, ask, house, opening,
)


class Opening(HouseCase):
    def test_answers_just_0(self):
        self.assertEqual(ask([opening(1, 1, -5, 5, 7, 9)]), [[0]])

    def test_low_may_be_high(self):
        self.assert_last([opening(low=5, high=5)], [0])

    def test_high_below_low(self):
        self.assert_refused([], opening(low=5, high=4), -4, [(HAND,), opening(), (HAND,)])

    def test_open_already(self):
        again = opening(means=1, two_prices=1, low=-3, high=3, threshold=1, add_on=1)
        after = [(AHEAD, 1, 9), (METER, 1, 1, 7), (METER, 2, 1, -5), (RESERVE, 1, 1, UP, 2, 8), (SETTLE, 1)]
        self.assert_refused(house(2), again, -3, after)

    def test_open_already_comes_before_high_below_low(self):
        self.assert_last([opening(), opening(low=5, high=4)], [-3])

    def test_after_a_refused_opening_another_is_accepted(self):
        self.assertEqual(ask([opening(low=5, high=4), opening(), (OPEN, 0, 0, 0, 0, 0, 0)]), [[-4], [0], [-3]])


class Hands(HouseCase):
    def test_numbers_in_the_order_in_which_they_came(self):
        self.assertEqual(ask([opening(), (HAND,), (HAND,), (HAND,)]), [[0], [0, 1], [0, 2], [0, 3]])

    def test_the_32nd_and_the_33rd(self):
        self.assert_tail(house(32), [[0, 32]])
        self.assert_refused(house(32), (HAND,), -6, [(HAND,), (POSITION, 32, 0), (SETTLE, 0)])

    def test_a_hand_is_there_only_once_it_came(self):
        self.assertEqual(ask(house(1) + [(MARKET, 2, 0, 4), (HAND,), (MARKET, 2, 0, 4)])[2:], [[-5], [0, 2], [0]])


if __name__ == "__main__":
    unittest.main()
