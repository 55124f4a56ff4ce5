"""What a house keeps, and how its entries are read and told."""


class Rules:
    """The rules that a house was opened with."""

    def __init__(self, means, two_prices, low, high, threshold, add_on):
        self.means = means
        self.two_prices = two_prices
        self.low = low
        self.high = high
        self.threshold = threshold
        self.add_on = add_on


class Reserve:
    """One call of reserve."""

    def __init__(self, quarter, hand, up, much, price):
        self.quarter = quarter
        self.hand = hand
        self.up = up
        self.much = much
        self.price = price


class House:
    """One house; as long as it has no rules it isn't open."""

    def __init__(self):
        self.rules = None
        self.hands = 0
        # By quarter, so that one quarter is worked out without a look at all the others.
        self.entries = {}
        self.reserves = {}
        # Counted apart from those that are there: a number doesn't come back when its call goes.
        self.reserves_told = 0
        # For each booked quarter a list: what nobody owes, then what each hand owes that was there.
        self.booked = {}
        self.locked = {}


class QuarterNow:
    """What's told of one quarter now, gathered once for all that is worked out from it."""

    def __init__(self, house, quarter):
        self.rules = house.rules
        self.hands = house.hands
        self.entries = house.entries.get(quarter, {})
        self.calls = [call for call in house.reserves.values() if call.quarter == quarter]
        self.hands_told = [key[1] for key in self.entries] + [call.hand for call in self.calls]


def market_key(hand):
    return ("market", hand, 0)


def metered_key(hand):
    return ("metered", hand, 0)


def weight_key(hand):
    return ("weight", hand, 0)


def ahead_key():
    return ("ahead", 0, 0)


def nominated_key(hand, to):
    return ("nominated", hand, to)


def entry(now, key):
    return now.entries.get(key, 0)


def nominated_to(now, hand):
    """The hands to which this one nominated something."""
    return [key[2] for key in now.entries if key[0] == "nominated" and key[1] == hand]


def hand_numbers(now):
    return list(range(1, now.hands + 1))


def has_hand(house, hand):
    return hand <= house.hands


def is_locked(house, quarter):
    return quarter in house.locked


def count_entries(house):
    return sum([len(entries) for entries in house.entries.values()])


def is_entry(house, quarter, key):
    return key in house.entries.get(quarter, {})


def set_entry(house, quarter, key, number):
    """Only what isn't 0 is kept, so that what is kept are just the entries."""
    entries = house.entries.setdefault(quarter, {})
    if number == 0:
        entries.pop(key, 0)
    else:
        entries[key] = number
