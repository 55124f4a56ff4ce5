"""The calls' numbers and arguments, the ranges of these, how much is kept, and the refusals' numbers."""

OPEN = 0
HAND = 1
MARKET = 2
METER = 3
WEIGHT = 4
AHEAD = 5
NOMINATE = 6
RESERVE = 7
UNRESERVE = 8
SETTLE = 9
LOCK = 10
POSITION = 11
MATCHED = 12
IMBALANCE = 13
PRICES = 14
FRESH = 15
PARTS = 16
BOOKED = 17
ACCOUNT = 18
MERIT = 19
SYSTEM = 20
UNMATCHED = 21
PENDING = 22
SUMS = 23
SPLIT = 24

ARGUMENTS = {
    0: ("flag", "flag", "price", "price", "threshold", "add_on"),
    1: (),
    2: ("hand", "quarter", "amount"),
    3: ("hand", "quarter", "amount"),
    4: ("hand", "quarter", "weight"),
    5: ("quarter", "price"),
    6: ("hand", "hand", "quarter", "amount"),
    7: ("quarter", "hand", "flag", "much", "price"),
    8: ("reserve",),
    9: ("quarter",),
    10: ("quarter",),
    11: ("hand", "quarter"),
    12: ("hand", "hand", "quarter"),
    13: ("hand", "quarter"),
    14: ("quarter",),
    15: ("quarter",),
    16: ("hand", "quarter"),
    17: ("quarter",),
    18: ("hand or nobody",),
    19: ("quarter",),
    20: ("quarter",),
    21: ("hand", "quarter"),
    22: (),
    23: (),
    24: ("whole", "how many weights"),
}

RANGES = {
    "flag": (0, 1),
    "hand": (1, 32),
    "quarter": (0, 9999),
    "amount": (-1000000000, 1000000000),
    "price": (-1000000, 1000000),
    "weight": (0, 1000000000),
    "threshold": (0, 1000000000),
    "add_on": (0, 1000000),
    "much": (1, 1000000000),
    "reserve": (1, 1000000000),
    "hand or nobody": (0, 32),
    "whole": (-1000000000000, 1000000000000),
    "how many weights": (1, 32),
}

MOST_HANDS = 32
MOST_ENTRIES = 96
MOST_RESERVES = 64
MOST_RESERVES_TOLD = 1000000000
MOST_BOOKED = 64

ACCEPTED = 0
OUT_OF_RANGE = -1
NOT_OPEN = -2
OPEN_ALREADY = -3
HIGH_BELOW_LOW = -4
NO_SUCH_HAND = -5
FULL = -6
LOCKED = -7
NO_SUCH_RESERVE = -8
PRICE_BEYOND_RULES = -9
SAME_HAND = -10
NOT_AS_BOOKED = -11
