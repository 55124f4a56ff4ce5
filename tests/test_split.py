import unittest

from quarterhouse.house import answers
from tests.helper import BILLION, HAND, SPLIT, SUMS, HouseCase, ask, flat, house, last, splitting

TRILLION = 10 ** 12


class Split(HouseCase):
    def assert_split(self, whole, weights, shares):
        self.assertEqual(last(house(0) + [splitting(whole, weights)]), [0] + shares)

    def test_it_divides_evenly(self):
        self.assert_split(12, [1, 2, 3], [2, 4, 6])

    def test_what_lacks_goes_to_the_greatest_remainders(self):
        # 10/7 leaves 3, 20/7 leaves 6, 40/7 leaves 5.
        self.assert_split(10, [1, 2, 4], [1, 3, 6])
        self.assert_split(10, [4, 1, 2], [6, 1, 3])

    def test_a_whole_below_0(self):
        self.assert_split(-10, [1, 2, 4], [-1, -3, -6])
        self.assert_split(-1, [1, 1, 1], [-1, 0, 0])

    def test_a_whole_of_0(self):
        self.assert_split(0, [1, 2, 4], [0, 0, 0])

    def test_with_equal_remainders_the_earlier_one_is_first(self):
        self.assert_split(10, [1, 1, 1], [4, 3, 3])
        self.assert_split(11, [1, 1, 1], [4, 4, 3])
        self.assert_split(-11, [1, 1, 1], [-4, -4, -3])
        self.assert_split(9, [2, 1, 2, 1], [3, 2, 3, 1])
        self.assert_split(1, [0, 5, 5], [0, 1, 0])

    def test_all_weights_0(self):
        for whole in (7, 0, -7):
            self.assert_split(whole, [0, 0, 0], [0, 0, 0])
            self.assert_split(whole, [0], [0])
        self.assert_split(7, [0] * 32, [0] * 32)

    def test_one_weight(self):
        for whole in (TRILLION, 1, 0, -1, -TRILLION):
            self.assert_split(whole, [1], [whole])
            self.assert_split(whole, [BILLION], [whole])
            self.assert_split(whole, [0, 3, 0], [0, whole, 0])

    def test_32_weights(self):
        self.assert_split(33, [1] * 32, [2] + [1] * 31)
        self.assert_split(63, [BILLION] * 32, [2] * 31 + [1])
        self.assert_split(-33, [1] * 32, [-2] + [-1] * 31)
        # The sum of the weights is 528, so everyone gets its own weight of it.
        self.assert_split(528, list(range(1, 33)), list(range(1, 33)))

    def test_the_greatest_numbers(self):
        self.assert_split(TRILLION, [BILLION, 1], [999999999000, 1000])
        self.assert_split(-TRILLION, [BILLION, BILLION, BILLION], [-333333333334, -333333333333, -333333333333])
        self.assert_split(TRILLION - 1, [BILLION] * 32, [31250000000] * 31 + [31249999999])

    def test_none_or_too_many_weights(self):
        for weights in ([], [1] * 33, [0] * 33, [1] * 200):
            with self.subTest(weights=len(weights)):
                self.assert_split_refused(splitting(7, weights))

    def test_a_weight_out_of_its_range(self):
        for wrong in (-1, BILLION + 1, -10 ** 18, 10 ** 18):
            for weights in ([wrong], [wrong, 1, 1], [1, wrong, 1], [1, 1, wrong], [0] * 31 + [wrong], [wrong] * 200):
                with self.subTest(weights=weights):
                    self.assert_split_refused(splitting(7, weights))

    def test_a_whole_out_of_its_range(self):
        for whole in (-TRILLION - 1, TRILLION + 1, -10 ** 18, 10 ** 18):
            self.assert_split_refused(splitting(whole, [1, 2]))

    def assert_split_refused(self, call):
        """Refused in an open house and in one that isn't open; the next call stands behind all the weights."""
        self.assertEqual(ask(house(1) + [call, (SUMS,), (HAND,)])[2:], [[-1], [0, 1, 0, 0, 0], [0, 2]])
        self.assertEqual(ask([call, (HAND,), call] + house(1)), [[-1], [-2], [-1], [0], [0, 1]])

    def test_weights_that_could_be_taken_for_calls(self):
        self.assertEqual(ask(house(1) + [splitting(7, [1, 1, 1]), (SUMS,)])[2:], [[0, 3, 2, 2], [0, 1, 0, 0, 0]])
        self.assertEqual(ask(house(1) + [splitting(7, [1] * 33), (SUMS,)])[2:], [[-1], [0, 1, 0, 0, 0]])
        self.assertEqual(ask(house(1) + [splitting(7, [24, 24, -1]), splitting(7, [1])])[2:], [[-1], [0, 7]])

    def test_while_the_house_is_not_open(self):
        self.assertEqual(ask([splitting(7, [1, 1]), splitting(7, [0])]), [[-2], [-2]])

    def test_nothing_is_kept_of_it(self):
        self.assertEqual(ask(house(1) + [splitting(7, [1, 2]), (SUMS,), splitting(7, [1, 2])])[2:],
                         [[0, 2, 5], [0, 1, 0, 0, 0], [0, 2, 5]])

    def test_as_it_stands_in_the_list(self):
        self.assertEqual(answers([0, 0, 0, 0, 0, 0, 0, SPLIT, 10, 3, 1, 2, 4, SPLIT, 5, 0, HAND]),
                         [1, 0, 4, 0, 1, 3, 6, 1, -1, 2, 0, 1])

    def test_the_weights_handed_in_stay_as_they_are(self):
        calls = flat(house(0) + [splitting(-11, [1, 1, 1]), splitting(5, [1] * 200)])
        before = list(calls)
        answers(calls)
        self.assertEqual(calls, before)


if __name__ == "__main__":
    unittest.main()
