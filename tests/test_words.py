"""Many mixed runs, held against a second reading of the document that shares no code with the program."""

import random
import unittest
from fractions import Fraction
from math import floor

from tests.helper import (
    AHEAD, HAND, LOCK, MARKET, MATCHED, METER, NOMINATE, OPEN, POSITION, RESERVE, SETTLE, UNRESERVE, WEIGHT, ask,
)

RUNS = 300
CALLS = 120


class Words:
    """A house kept in the plainest way: every number told, by what it is of."""

    def __init__(self):
        self.rules = None
        self.hands = []
        self.numbers = {}
        self.calls = []
        self.next_call = 1
        self.bookings = {}
        self.locks = []

    def told(self, *what):
        return self.numbers.get(what, 0)

    def answer(self, call):
        kind, arguments = call[0], call[1:]
        if kind == OPEN:
            return self.answer_open(arguments)
        if self.rules is None:
            return [-2]
        if kind == HAND:
            self.hands.append(len(self.hands) + 1)
            return [0, len(self.hands)]
        if kind in (MARKET, METER, WEIGHT):
            return self.answer_told([arguments[0]], arguments[1], (kind,) + arguments[:2], arguments[2])
        if kind == AHEAD:
            if not self.rules[2] <= arguments[1] <= self.rules[3]:
                return [-9]
            return self.answer_told([], arguments[0], (kind, arguments[0]), arguments[1])
        if kind == NOMINATE:
            return self.answer_told(arguments[:2], arguments[2], (kind,) + arguments[:3], arguments[3])
        if kind == RESERVE:
            return self.answer_reserve(*arguments)
        if kind == UNRESERVE:
            return self.answer_unreserve(arguments[0])
        if kind == SETTLE:
            return self.answer_settle(arguments[0])
        if kind == LOCK:
            return self.answer_lock(arguments[0])
        if any(hand not in self.hands for hand in arguments[:-1]):
            return [-5]
        if kind == POSITION:
            market = self.told(MARKET, *arguments)
            return [0, market, self.position(*arguments) - market, self.position(*arguments)]
        return [0, self.matched(*arguments)]

    def answer_open(self, rules):
        if self.rules is not None:
            return [-3]
        if rules[3] < rules[2]:
            return [-4]
        self.rules = rules
        return [0]

    def answer_told(self, hands, quarter, what, number):
        if any(hand not in self.hands for hand in hands):
            return [-5]
        if len(hands) == 2 and hands[0] == hands[1]:
            return [-10]
        if quarter in self.locks:
            return [-7]
        after = dict(self.numbers)
        after[what] = number
        if sum(1 for kept in after.values() if kept) > 96:
            return [-6]
        self.numbers = after
        return [0]

    def answer_reserve(self, quarter, hand, up, much, price):
        if hand not in self.hands:
            return [-5]
        if not self.rules[2] <= price <= self.rules[3]:
            return [-9]
        if quarter in self.locks:
            return [-7]
        if len(self.calls) >= 64:
            return [-6]
        self.calls.append((self.next_call, quarter, hand, 1 if up else -1, much, price))
        self.next_call += 1
        return [0, self.next_call - 1]

    def answer_unreserve(self, number):
        found = [call for call in self.calls if call[0] == number]
        if not found:
            return [-8]
        if found[0][1] in self.locks:
            return [-7]
        self.calls.remove(found[0])
        return [0]

    def answer_settle(self, quarter):
        if quarter in self.locks:
            return [-7]
        if quarter not in self.bookings and len(self.bookings) >= 64:
            return [-6]
        before = self.bookings.get(quarter, {})
        self.bookings[quarter] = self.owed(quarter)
        moved = [(who, owes - before.get(who, 0)) for who, owes in sorted(self.bookings[quarter].items())]
        moved = [pair for pair in moved if pair[1]]
        return [0, len(moved)] + [number for pair in moved for number in pair]

    def answer_lock(self, quarter):
        if quarter not in self.bookings:
            return [-11]
        if quarter in self.locks:
            return [-7]
        booked = self.bookings[quarter]
        if any(owes != booked.get(who, 0) for who, owes in self.owed(quarter).items()):
            return [-11]
        self.locks.append(quarter)
        return [0]

    def matched(self, one, other, quarter):
        x, y = self.told(NOMINATE, one, other, quarter), self.told(NOMINATE, other, one, quarter)
        if x * y >= 0:
            return 0
        least = min(abs(x), abs(y))
        return least if x > 0 else -least

    def position(self, hand, quarter):
        return self.told(MARKET, hand, quarter) + sum(self.matched(hand, other, quarter) for other in self.hands)

    def within(self, price):
        return sorted((self.rules[2], price, self.rules[3]))[1]

    def prices(self, quarter):
        means, two_prices, _, _, threshold, add_on = self.rules
        calls = [call for call in self.calls if call[1] == quarter]
        net = sum(call[3] * call[4] for call in calls)
        ahead = self.within(self.told(AHEAD, quarter))
        price = ahead
        if net:
            way = 1 if net > 0 else -1
            alike = [call for call in calls if call[3] == way]
            price = way * max(way * call[5] for call in alike)
            if means:
                price = floor(Fraction(sum(call[4] * call[5] for call in alike), sum(call[4] for call in alike)))
            price = self.within(price + (way * add_on if abs(net) >= threshold else 0))
        return (max(price, ahead), min(price, ahead)) if two_prices else (price, price)

    def owed(self, quarter):
        short, long = self.prices(quarter)
        gross = {}
        for hand in self.hands:
            own = [call for call in self.calls if call[1] == quarter and call[2] == hand]
            off = self.told(METER, hand, quarter) - self.position(hand, quarter) - sum(c[3] * c[4] for c in own)
            gross[hand] = -off * (short if off < 0 else long) - sum(c[3] * c[4] * c[5] for c in own)
        rest = -sum(gross.values())
        weights = {hand: self.told(WEIGHT, hand, quarter) for hand in self.hands}
        whole = sum(weights.values())
        if whole == 0:
            return {0: rest} | gross
        sign = -1 if rest < 0 else 1
        exact = {hand: Fraction(abs(rest) * weight, whole) for hand, weight in weights.items()}
        shares = {hand: floor(part) for hand, part in exact.items()}
        for hand in sorted(exact, key=lambda one: (floor(exact[one]) - exact[one], one)):
            if sum(shares.values()) < abs(rest):
                shares[hand] += 1
        return {0: 0} | {hand: gross[hand] + sign * shares[hand] for hand in self.hands}


def any_call(draw):
    hand, other, quarter = draw.randint(1, 6), draw.randint(1, 6), draw.randint(0, 3)
    amount, price = draw.randint(-12, 12), draw.randint(-9, 9)
    return draw.choice([
        (HAND,) if draw.random() < 0.2 else (METER, hand, quarter, amount),
        (MARKET, hand, quarter, amount), (METER, hand, quarter, amount), (WEIGHT, hand, quarter, draw.randint(0, 4)),
        (AHEAD, quarter, price), (NOMINATE, hand, other, quarter, amount), (NOMINATE, other, hand, quarter, -amount),
        (RESERVE, quarter, hand, draw.randint(0, 1), draw.randint(1, 9), price), (UNRESERVE, draw.randint(1, 20)),
        (SETTLE, quarter), (SETTLE, quarter), (LOCK, quarter) if draw.random() < 0.2 else (SETTLE, quarter),
        (POSITION, hand, quarter), (MATCHED, hand, other, quarter),
    ])


def any_run(draw):
    rules = (draw.randint(0, 1), draw.randint(0, 1), draw.randint(-9, 3), draw.randint(-3, 9),
             draw.randint(0, 12), draw.randint(0, 5))
    calls = [(HAND,), (OPEN,) + rules, (OPEN, 0, 0, -8, 8, 3, 2)]
    return calls + [(HAND,)] * draw.randint(1, 5) + [any_call(draw) for _ in range(CALLS)]


class ManyRuns(unittest.TestCase):
    def test_answers_are_those_of_the_second_reading(self):
        for seed in range(RUNS):
            calls = any_run(random.Random(seed))
            words = Words()
            with self.subTest(seed=seed):
                self.assertEqual(ask(calls), [words.answer(call) for call in calls])

    def test_every_quarter_makes_0(self):
        for seed in range(RUNS):
            calls = any_run(random.Random(seed))
            for call, answer in zip(calls, ask(calls)):
                if call[0] == SETTLE and answer[0] == 0:
                    with self.subTest(seed=seed, call=call):
                        self.assertEqual(sum(answer[3::2]), 0)


if __name__ == "__main__":
    unittest.main()
