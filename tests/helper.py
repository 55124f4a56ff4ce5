"""How the tests ask a house: a call is a tuple, its number first, and its answer is a list."""

import unittest

from quarterhouse.house import answers

OPEN, HAND, MARKET, METER, WEIGHT, AHEAD, NOMINATE = range(7)
RESERVE, UNRESERVE, SETTLE, LOCK, POSITION, MATCHED = range(7, 13)
IMBALANCE, PRICES, FRESH, PARTS, BOOKED, ACCOUNT = range(13, 19)
MERIT, SYSTEM, UNMATCHED, PENDING, SUMS, SPLIT = range(19, 25)
UP, DOWN = 1, 0
BILLION = 10 ** 9


def opening(means=0, two_prices=0, low=-1000000, high=1000000, threshold=0, add_on=0):
    return (OPEN, means, two_prices, low, high, threshold, add_on)


def house(hands=3, **rules):
    """The calls that make an open house with so many hands."""
    return [opening(**rules)] + [(HAND,)] * hands


def splitting(whole, weights):
    return (SPLIT, whole, len(weights), *weights)


def flat(calls):
    return [number for call in calls for number in call]


def rows(numbers):
    """The answers, taken apart by the counts that stand before them."""
    taken = []
    place = 0
    while place < len(numbers):
        end = place + 1 + numbers[place]
        taken.append(numbers[place + 1:end])
        place = end
    return taken


def ask(calls):
    return rows(answers(flat(calls)))


def last(calls):
    return ask(calls)[-1]


class HouseCase(unittest.TestCase):
    def assert_last(self, calls, answer):
        self.assertEqual(last(calls), answer)

    def assert_tail(self, calls, tail):
        """The last answers; those before them are all accepted."""
        given = ask(calls)
        self.assertEqual(given[-len(tail):], tail)
        for call, answer in zip(calls[:-len(tail)], given):
            self.assertEqual(answer[0], 0, call)

    def assert_refused(self, before, call, number, after):
        """The call is refused, and what comes behind it is answered as if it had never been asked."""
        refused = ask(before + [call] + after)
        without = ask(before + after)
        self.assertEqual(refused[len(before)], [number])
        self.assertEqual(refused[:len(before)], without[:len(before)])
        self.assertEqual(refused[len(before) + 1:], without[len(before):])
