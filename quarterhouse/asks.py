"""The calls that ask a house and change nothing; each answers a list of numbers."""

from quarterhouse.limits import ACCEPTED, NO_SUCH_HAND
from quarterhouse.quarter import matched, matched_sum, position
from quarterhouse.state import QuarterNow, entry, has_hand, market_key


def ask_position(house, hand, quarter):
    if not has_hand(house, hand):
        return [NO_SUCH_HAND]
    now = QuarterNow(house, quarter)
    return [ACCEPTED, entry(now, market_key(hand)), matched_sum(now, hand), position(now, hand)]


def ask_matched(house, hand, other, quarter):
    if not has_hand(house, hand) or not has_hand(house, other):
        return [NO_SUCH_HAND]
    return [ACCEPTED, matched(QuarterNow(house, quarter), hand, other)]
