"""Many mixed runs, held against a second reading of the document that shares no code with the program."""

import random
import unittest
from fractions import Fraction
from math import floor

from quarterhouse.house import answers
from tests.helper import (
    ACCOUNT, AHEAD, BOOKED, FRESH, HAND, IMBALANCE, LOCK, MARKET, MATCHED, MERIT, METER, NOMINATE, OPEN, PARTS, PENDING,
    POSITION, PRICES, RESERVE, SETTLE, SPLIT, SUMS, SYSTEM, UNMATCHED, UNRESERVE, WEIGHT, flat, rows, splitting,
)

RUNS = 300
CALLS = 150
GREAT_RUNS = 24
WIDE_RUNS = 6
GREAT_CALLS = 400
FAR = 10 ** 18

# For each call what stands in its row: p price, h hand, n hand or nobody, q quarter, a amount, and so on.
ROWS = {
    OPEN: "ffpptd", HAND: "", MARKET: "hqa", METER: "hqa", WEIGHT: "hqw", AHEAD: "qp", NOMINATE: "hhqa",
    RESERVE: "qhfmp", UNRESERVE: "m", SETTLE: "q", LOCK: "q", POSITION: "hq", MATCHED: "hhq", IMBALANCE: "hq",
    PRICES: "q", FRESH: "q", PARTS: "hq", BOOKED: "q", ACCOUNT: "n", MERIT: "q", SYSTEM: "q", UNMATCHED: "hq",
    PENDING: "", SUMS: "",
}
ENDS = {
    "f": (0, 1), "h": (1, 32), "n": (0, 32), "q": (0, 9999), "a": (-10 ** 9, 10 ** 9), "p": (-10 ** 6, 10 ** 6),
    "w": (0, 10 ** 9), "t": (0, 10 ** 9), "d": (0, 10 ** 6), "m": (1, 10 ** 9), "x": (-10 ** 12, 10 ** 12),
    "c": (1, 32),
}


def signs_of(call):
    return "xc" + "w" * (len(call) - 3) if call[0] == SPLIT else ROWS[call[0]]


def is_in_range(call):
    return all(ENDS[sign][0] <= number <= ENDS[sign][1] for sign, number in zip(signs_of(call), call[1:], strict=True))


def in_form(owed):
    """Settle's form of a dict from who to how much."""
    found = [(who, owes) for who, owes in sorted(owed.items()) if owes]
    return [len(found)] + [number for pair in found for number in pair]


def exact_split(whole, weights):
    """By the words: rounded down, then 1 each in order of the greatest remainder, the earlier one first."""
    total = sum(weights)
    if total == 0:
        return [0 for _ in weights]
    exact = [Fraction(abs(whole) * weight, total) for weight in weights]
    shares = [floor(part) for part in exact]
    for place in sorted(range(len(weights)), key=lambda one: (shares[one] - exact[one], one)):
        if sum(shares) < abs(whole):
            shares[place] += 1
    return [share if whole > 0 else -share for share in shares]


class Words:
    """A house kept in the plainest way: every number told, by what it is of."""

    def __init__(self):
        self.rules = None
        self.hands = []
        self.numbers = {}
        self.calls = []
        self.next_call = 1
        self.bookings = {}
        self.locks = []

    def told(self, *what):
        return self.numbers.get(what, 0)

    def answer(self, call):
        kind, arguments = call[0], call[1:]
        if not is_in_range(call):
            return [-1]
        if kind == OPEN:
            return self.answer_open(arguments)
        if self.rules is None:
            return [-2]
        if kind in (POSITION, MATCHED, IMBALANCE, PARTS, UNMATCHED):
            if any(hand not in self.hands for hand in arguments[:-1]):
                return [-5]
        if kind == ACCOUNT and arguments[0] not in [0] + self.hands:
            return [-5]
        if kind < POSITION:
            return self.answer_change(kind, arguments)
        return [0] + self.asked(kind, arguments)

    def answer_change(self, kind, arguments):
        if kind == HAND:
            if len(self.hands) == 32:
                return [-6]
            self.hands.append(len(self.hands) + 1)
            return [0, len(self.hands)]
        if kind in (MARKET, METER, WEIGHT):
            return self.answer_told([arguments[0]], arguments[1], (kind,) + arguments[:2], arguments[2])
        if kind == AHEAD:
            if not self.rules[2] <= arguments[1] <= self.rules[3]:
                return [-9]
            return self.answer_told([], arguments[0], (kind, arguments[0]), arguments[1])
        if kind == NOMINATE:
            return self.answer_told(arguments[:2], arguments[2], (kind,) + arguments[:3], arguments[3])
        if kind == RESERVE:
            return self.answer_reserve(*arguments)
        if kind == UNRESERVE:
            return self.answer_unreserve(arguments[0])
        if kind == SETTLE:
            return self.answer_settle(arguments[0])
        return self.answer_lock(arguments[0])

    def answer_open(self, rules):
        if self.rules is not None:
            return [-3]
        if rules[3] < rules[2]:
            return [-4]
        self.rules = rules
        return [0]

    def answer_told(self, hands, quarter, what, number):
        if any(hand not in self.hands for hand in hands):
            return [-5]
        if len(hands) == 2 and hands[0] == hands[1]:
            return [-10]
        if quarter in self.locks:
            return [-7]
        after = dict(self.numbers)
        after[what] = number
        if self.count_entries(after) > 96:
            return [-6]
        self.numbers = after
        return [0]

    def count_entries(self, numbers):
        return sum(1 for kept in numbers.values() if kept)

    def answer_reserve(self, quarter, hand, up, much, price):
        if hand not in self.hands:
            return [-5]
        if not self.rules[2] <= price <= self.rules[3]:
            return [-9]
        if quarter in self.locks:
            return [-7]
        if len(self.calls) >= 64:
            return [-6]
        self.calls.append((self.next_call, quarter, hand, 1 if up else -1, much, price))
        self.next_call += 1
        return [0, self.next_call - 1]

    def answer_unreserve(self, number):
        found = [call for call in self.calls if call[0] == number]
        if not found:
            return [-8]
        if found[0][1] in self.locks:
            return [-7]
        self.calls.remove(found[0])
        return [0]

    def answer_settle(self, quarter):
        if quarter in self.locks:
            return [-7]
        if quarter not in self.bookings and len(self.bookings) >= 64:
            return [-6]
        before = self.bookings.get(quarter, {})
        self.bookings[quarter] = self.owed(quarter)
        return [0] + in_form({who: owes - before.get(who, 0) for who, owes in self.bookings[quarter].items()})

    def answer_lock(self, quarter):
        if quarter not in self.bookings:
            return [-11]
        if quarter in self.locks:
            return [-7]
        if self.has_moved(quarter):
            return [-11]
        self.locks.append(quarter)
        return [0]

    def has_moved(self, quarter):
        booked = self.bookings[quarter]
        return any(owes != booked.get(who, 0) for who, owes in self.owed(quarter).items())

    def asked(self, kind, arguments):
        one = {
            POSITION: self.ask_position, MATCHED: lambda *given: [self.matched(*given)], IMBALANCE: self.ask_imbalance,
            PRICES: self.prices, FRESH: lambda quarter: in_form(self.owed(quarter)), PARTS: self.ask_parts,
            BOOKED: self.ask_booked, ACCOUNT: self.ask_account, MERIT: self.ask_merit, SYSTEM: self.ask_system,
            UNMATCHED: self.ask_unmatched, PENDING: self.ask_pending, SUMS: self.ask_sums,
            SPLIT: lambda whole, count, *weights: exact_split(whole, weights),
        }
        return one[kind](*arguments)

    def ask_position(self, hand, quarter):
        market = self.told(MARKET, hand, quarter)
        return [market, self.position(hand, quarter) - market, self.position(hand, quarter)]

    def ask_imbalance(self, hand, quarter):
        return [self.imbalance(hand, quarter), sum(call[3] * call[4] for call in self.own_calls(hand, quarter))]

    def ask_parts(self, hand, quarter):
        for_imbalance, for_reserve = self.gross(quarter)[hand]
        return [for_imbalance, for_reserve, self.owed(quarter)[hand] - for_imbalance - for_reserve]

    def ask_booked(self, quarter):
        if quarter not in self.bookings:
            return [0]
        return [1, self.locks.count(quarter)] + in_form(self.bookings[quarter])

    def ask_account(self, who):
        return [sum(booked[who] for booked in self.bookings.values() if who in booked)]

    def ask_merit(self, quarter):
        calls = [call for call in self.calls if call[1] == quarter]
        up = sorted((call[5], call[0], call) for call in calls if call[3] == 1)
        down = sorted((-call[5], call[0], call) for call in calls if call[3] == -1)
        found = [len(calls)]
        for _, number, call in up + down:
            found += [number, call[2], 1 if call[3] == 1 else 0, call[4], call[5]]
        return found

    def ask_system(self, quarter):
        calls = [call for call in self.calls if call[1] == quarter]
        return [
            sum(call[4] for call in calls if call[3] == 1), sum(call[4] for call in calls if call[3] == -1),
            sum(self.imbalance(hand, quarter) for hand in self.hands),
            sum(self.position(hand, quarter) for hand in self.hands),
            sum(sum(pair) for pair in self.gross(quarter).values()),
            sum(self.told(WEIGHT, hand, quarter) for hand in self.hands),
        ]

    def ask_unmatched(self, hand, quarter):
        found = []
        for other in self.hands:
            nominated = self.told(NOMINATE, hand, other, quarter)
            if nominated and nominated != self.matched(hand, other, quarter):
                found.append((other, nominated, self.matched(hand, other, quarter)))
        return [len(found)] + flat(found)

    def ask_pending(self):
        found = sorted(quarter for quarter in self.bookings if self.has_moved(quarter))
        return [len(found)] + found

    def ask_sums(self):
        return [len(self.hands), self.count_entries(self.numbers), len(self.calls), len(self.bookings)]

    def matched(self, one, other, quarter):
        x, y = self.told(NOMINATE, one, other, quarter), self.told(NOMINATE, other, one, quarter)
        if x * y >= 0:
            return 0
        least = min(abs(x), abs(y))
        return least if x > 0 else -least

    def position(self, hand, quarter):
        return self.told(MARKET, hand, quarter) + sum(self.matched(hand, other, quarter) for other in self.hands)

    def own_calls(self, hand, quarter):
        return [call for call in self.calls if call[1] == quarter and call[2] == hand]

    def imbalance(self, hand, quarter):
        called = sum(call[3] * call[4] for call in self.own_calls(hand, quarter))
        return self.told(METER, hand, quarter) - self.position(hand, quarter) - called

    def within(self, price):
        return sorted((self.rules[2], price, self.rules[3]))[1]

    def prices(self, quarter):
        means, two_prices, _, _, threshold, add_on = self.rules
        calls = [call for call in self.calls if call[1] == quarter]
        net = sum(call[3] * call[4] for call in calls)
        way = (net > 0) - (net < 0)
        ahead = self.within(self.told(AHEAD, quarter))
        price = ahead
        if way:
            alike = [call for call in calls if call[3] == way]
            price = way * max(way * call[5] for call in alike)
            if means:
                price = floor(Fraction(sum(call[4] * call[5] for call in alike), sum(call[4] for call in alike)))
            price = self.within(price + (way * add_on if abs(net) >= threshold else 0))
        return [way, price] + ([max(price, ahead), min(price, ahead)] if two_prices else [price, price])

    def gross(self, quarter):
        """For each hand what it owes for its imbalance and for its calls of reserve."""
        _, _, short, long = self.prices(quarter)
        found = {}
        for hand in self.hands:
            off = self.imbalance(hand, quarter)
            paid = sum(call[3] * call[4] * call[5] for call in self.own_calls(hand, quarter))
            found[hand] = (-off * (short if off < 0 else long), -paid)
        return found

    def owed(self, quarter):
        gross = {hand: sum(pair) for hand, pair in self.gross(quarter).items()}
        rest = -sum(gross.values())
        weights = [self.told(WEIGHT, hand, quarter) for hand in self.hands]
        if not any(weights):
            return {0: rest} | gross
        shares = exact_split(rest, weights)
        return {0: 0} | {hand: gross[hand] + share for hand, share in zip(self.hands, shares, strict=True)}


def any_split(draw):
    weights = [draw.randint(0, draw.choice([0, 1, 5, 10 ** 9])) for _ in range(draw.choice([1, 2, 3, 5, 32]))]
    return splitting(draw.randint(-40, 40) * draw.choice([1, 10 ** 10]), weights)


def any_ask(draw, hand, other, quarter):
    return draw.choice([
        (POSITION, hand, quarter), (MATCHED, hand, other, quarter), (IMBALANCE, hand, quarter), (PRICES, quarter),
        (FRESH, quarter), (PARTS, hand, quarter), (BOOKED, quarter), (ACCOUNT, draw.choice([0, hand])),
        (MERIT, quarter), (SYSTEM, quarter), (UNMATCHED, hand, quarter), (PENDING,), (SUMS,), any_split(draw),
    ])


def any_call(draw):
    hand, other, quarter = draw.randint(1, 6), draw.randint(1, 6), draw.randint(0, 3)
    amount, price = draw.randint(-12, 12), draw.randint(-9, 9)
    if draw.random() < 0.45:
        return any_ask(draw, hand, other, quarter)
    return draw.choice([
        (HAND,) if draw.random() < 0.2 else (METER, hand, quarter, amount),
        (MARKET, hand, quarter, amount), (METER, hand, quarter, amount), (WEIGHT, hand, quarter, draw.randint(0, 4)),
        (AHEAD, quarter, price), (NOMINATE, hand, other, quarter, amount), (NOMINATE, other, hand, quarter, -amount),
        (RESERVE, quarter, hand, draw.randint(0, 1), draw.randint(1, 9), price), (UNRESERVE, draw.randint(1, 20)),
        (SETTLE, quarter), (SETTLE, quarter), (LOCK, quarter) if draw.random() < 0.2 else (SETTLE, quarter),
    ])


def any_run(draw):
    rules = (draw.randint(0, 1), draw.randint(0, 1), draw.randint(-9, 3), draw.randint(-3, 9),
             draw.randint(0, 12), draw.randint(0, 5))
    calls = [(HAND,), (OPEN,) + rules, (OPEN, 0, 0, -8, 8, 3, 2)]
    return calls + [(HAND,)] * draw.randint(1, 5) + [any_call(draw) for _ in range(CALLS)]


def any_number(draw, sign):
    """Mostly within the range of its sign, often at one of its ends, seldom beyond."""
    low, high = ENDS[sign]
    if draw.random() < 0.01:
        return draw.choice([low - 1, high + 1, -FAR, FAR])
    if sign in "hn":
        return draw.randint(low, 32)
    if sign == "q":
        return draw.choice([0, 1, 2, draw.randint(3, 90), 9999])
    return draw.choice([low, high, draw.randint(low, high), max(low, draw.randint(-5, 5))])


def any_great_call(draw):
    """A call with numbers up to the ends of their ranges, of many hands in many quarters."""
    kind = draw.choice([HAND, MARKET, METER, METER, WEIGHT, AHEAD, NOMINATE, RESERVE, RESERVE, SETTLE, SETTLE, SETTLE,
                        UNRESERVE, LOCK, SPLIT, draw.randint(POSITION, SYSTEM), draw.randint(PRICES, SUMS)])
    if kind == SPLIT:
        weights = [any_number(draw, "w") for _ in range(draw.choice([0, 1, 2, 9, 32, 33, 200]))]
        return splitting(any_number(draw, "x"), weights)
    if kind == UNRESERVE and draw.random() < 0.9:
        return (UNRESERVE, draw.randint(1, 80))
    return (kind,) + tuple(any_number(draw, sign) for sign in ROWS[kind])


def any_great_run(draw):
    calls = [any_great_call(draw) for _ in range(3)]
    calls.append((OPEN, draw.randint(0, 1), draw.randint(0, 1), draw.choice([-10 ** 6, -40]),
                  draw.choice([10 ** 6, 10 ** 6, 40]), draw.choice([0, 10 ** 9, 5]), draw.choice([0, 10 ** 6, 3])))
    calls += [(HAND,)] * draw.choice([0, 5, 32, 32])
    # In some runs more quarters are booked, entries told and reserve called than there's room for.
    if draw.random() < 0.5:
        calls += [(SETTLE, quarter) for quarter in draw.sample(range(100), 66)]
    if draw.random() < 0.5:
        calls += [(METER, draw.randint(1, 32), draw.randint(0, 90), draw.randint(-9, 9)) for _ in range(110)]
    if draw.random() < 0.5:
        calls += [(RESERVE, draw.randint(0, 9), draw.randint(1, 32), draw.randint(0, 1), 7, 5) for _ in range(66)]
    return calls + [any_great_call(draw) for _ in range(GREAT_CALLS - len(calls))]


def any_wide_run(draw):
    """400 calls that make up to 17000 numbers, by splits that have as many weights as a row may have."""
    calls = any_run(draw)
    calls += [any_call(draw) for _ in range(GREAT_CALLS - len(calls))]
    for place in sorted(draw.sample(range(1, GREAT_CALLS), 75)):
        calls[place] = splitting(draw.randint(-99, 99), [draw.randint(0, 24) for _ in range(200)])
    return calls


class ManyRuns(unittest.TestCase):
    def assert_as_read(self, calls):
        numbers = flat(calls)
        before = list(numbers)
        words = Words()
        self.assertLessEqual(len(calls), GREAT_CALLS)
        self.assertLessEqual(len(numbers), 17000)
        first = answers(numbers)
        self.assertEqual(rows(first), [words.answer(call) for call in calls])
        self.assertEqual(numbers, before)
        self.assertEqual(answers(numbers), first)

    def test_answers_are_those_of_the_second_reading(self):
        for seed in range(RUNS):
            with self.subTest(seed=seed):
                self.assert_as_read(any_run(random.Random(seed)))

    def test_with_great_numbers_and_wrong_ones(self):
        for seed in range(GREAT_RUNS):
            with self.subTest(seed=seed):
                self.assert_as_read(any_great_run(random.Random(seed)))

    def test_with_as_many_numbers_as_there_may_be(self):
        longest = 0
        for seed in range(WIDE_RUNS):
            calls = any_wide_run(random.Random(seed))
            longest = max(longest, len(flat(calls)))
            with self.subTest(seed=seed):
                self.assert_as_read(calls)
        self.assertGreater(longest, 16000)

    def test_every_quarter_makes_0(self):
        for seed in range(RUNS):
            calls = any_run(random.Random(seed))
            for call, answer in zip(calls, rows(answers(flat(calls)))):
                if call[0] in (SETTLE, FRESH) and answer[0] == 0:
                    with self.subTest(seed=seed, call=call):
                        self.assertEqual(sum(answer[3::2]), 0)

    def test_each_call_is_accepted_and_each_refusal_answered_somewhere(self):
        accepted, refused = {}, {}
        runs = [any_run(random.Random(seed)) for seed in range(40)]
        runs += [any_great_run(random.Random(seed)) for seed in range(GREAT_RUNS)]
        for calls in runs:
            for call, answer in zip(calls, rows(answers(flat(calls)))):
                kept = accepted if answer[0] == 0 else refused
                kept.setdefault(call[0], set()).add(answer[0])
        self.assertEqual(sorted(accepted), list(range(25)))
        self.assertEqual({number for numbers in refused.values() for number in numbers}, set(range(-11, 0)))


if __name__ == "__main__":
    unittest.main()
