"""One quarter by what's told now: positions, imbalances, prices, and what each one owes."""

from quarterhouse.shares import shared
from quarterhouse.state import (
    ahead_key, entry, hand_numbers, market_key, metered_key, nominated_key, nominated_to, weight_key,
)


class Prices:
    """A quarter's direction and its prices."""

    def __init__(self, direction, price, short_price, long_price):
        self.direction = direction
        self.price = price
        self.short_price = short_price
        self.long_price = long_price


def matched(now, hand, other):
    there = entry(now, nominated_key(hand, other))
    back = entry(now, nominated_key(other, hand))
    if there > 0 and back < 0:
        return min(there, -back)
    if there < 0 and back > 0:
        return -min(-there, back)
    return 0


def matched_sum(now, hand):
    return sum([matched(now, hand, other) for other in nominated_to(now, hand)])


def position(now, hand):
    return entry(now, market_key(hand)) + matched_sum(now, hand)


def own_calls(now, hand):
    return [call for call in now.calls if call.hand == hand]


def amount_called(calls, up):
    return sum([call.much for call in calls if call.up == up])


def surplus_up(calls):
    return amount_called(calls, 1) - amount_called(calls, 0)


def called(now, hand):
    return surplus_up(own_calls(now, hand))


def imbalance(now, hand):
    return entry(now, metered_key(hand)) - position(now, hand) - called(now, hand)


def brought_within(rules, price):
    return max(rules.low, min(rules.high, price))


def ahead_price(now):
    return brought_within(now.rules, entry(now, ahead_key()))


def direction_of(now):
    surplus = surplus_up(now.calls)
    if surplus > 0:
        return 1
    if surplus < 0:
        return -1
    return 0


def mean_price(calls):
    return sum([call.price * call.much for call in calls]) // sum([call.much for call in calls])


def price_up(now):
    calls = [call for call in now.calls if call.up == 1]
    price = mean_price(calls) if now.rules.means == 1 else max([call.price for call in calls])
    if surplus_up(now.calls) >= now.rules.threshold:
        return price + now.rules.add_on
    return price


def price_down(now):
    calls = [call for call in now.calls if call.up == 0]
    price = mean_price(calls) if now.rules.means == 1 else min([call.price for call in calls])
    if -surplus_up(now.calls) >= now.rules.threshold:
        return price - now.rules.add_on
    return price


def quarter_price(now, direction):
    if direction == 1:
        return brought_within(now.rules, price_up(now))
    if direction == -1:
        return brought_within(now.rules, price_down(now))
    return ahead_price(now)


def prices_of(now):
    direction = direction_of(now)
    price = quarter_price(now, direction)
    if now.rules.two_prices == 0:
        return Prices(direction, price, price, price)
    ahead = ahead_price(now)
    return Prices(direction, price, max(price, ahead), min(price, ahead))


def owed_for_imbalance(now, hand, prices):
    amount = imbalance(now, hand)
    if amount < 0:
        return -amount * prices.short_price
    return -amount * prices.long_price


def owed_for_reserve(now, hand):
    calls = own_calls(now, hand)
    got = sum([call.price * call.much for call in calls if call.up == 1])
    paid = sum([call.price * call.much for call in calls if call.up == 0])
    return paid - got


def gross_of(now, hand, prices):
    # A hand of which nothing was told owes nothing; that's not worked out, as pending asks it of many in many quarters.
    if hand not in now.hands_told:
        return 0
    return owed_for_imbalance(now, hand, prices) + owed_for_reserve(now, hand)


def gross_of_hands(now):
    prices = prices_of(now)
    return [gross_of(now, hand, prices) for hand in hand_numbers(now)]


def weights_of_hands(now):
    return [entry(now, weight_key(hand)) for hand in hand_numbers(now)]


def shares_of_rest(now, gross):
    return shared(-sum(gross), weights_of_hands(now))


def owed_now(now):
    """What nobody owes, then what each hand owes, in order of number; together that makes 0."""
    gross = gross_of_hands(now)
    owed = [own + share for own, share in zip(gross, shares_of_rest(now, gross), strict=True)]
    # With a weight the hands make 0 among themselves; without one the rest isn't shared and is nobody's.
    return [-sum(owed)] + owed
