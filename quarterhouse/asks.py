"""The calls that ask a house and change nothing; each answers a list of numbers."""

from quarterhouse.bookings import is_pending, listed
from quarterhouse.limits import ACCEPTED, NO_SUCH_HAND
from quarterhouse.quarter import (
    amount_called, called, gross_of_hands, imbalance, matched, matched_sum, owed_for_imbalance, owed_for_reserve,
    owed_now, position, prices_of, shares_of_rest, weights_of_hands,
)
from quarterhouse.shares import shared
from quarterhouse.state import (
    QuarterNow, count_entries, entry, hand_numbers, has_hand, is_locked, market_key, nominated_key, nominated_to,
)


def ask_position(now, hand):
    return [ACCEPTED, entry(now, market_key(hand)), matched_sum(now, hand), position(now, hand)]


def ask_matched(house, hand, other, quarter):
    if not has_hand(house, hand) or not has_hand(house, other):
        return [NO_SUCH_HAND]
    return [ACCEPTED, matched(QuarterNow(house, quarter), hand, other)]


def ask_imbalance(now, hand):
    return [ACCEPTED, imbalance(now, hand), called(now, hand)]


def ask_prices(now):
    prices = prices_of(now)
    return [ACCEPTED, prices.direction, prices.price, prices.short_price, prices.long_price]


def ask_fresh(now):
    return [ACCEPTED] + listed(owed_now(now))


def ask_parts(now, hand):
    share = shares_of_rest(now, gross_of_hands(now))[hand - 1]
    return [ACCEPTED, owed_for_imbalance(now, hand, prices_of(now)), owed_for_reserve(now, hand), share]


def ask_booked(house, quarter):
    if quarter not in house.booked:
        return [ACCEPTED, 0]
    return [ACCEPTED, 1, 1 if is_locked(house, quarter) else 0] + listed(house.booked[quarter])


def ask_account(house, hand):
    if not has_hand(house, hand):
        return [NO_SUCH_HAND]
    # A hand that came after a booking isn't in it.
    return [ACCEPTED, sum([numbers[hand] for numbers in house.booked.values() if hand < len(numbers)])]


def merit_order(number, call):
    if call.up == 1:
        return (0, call.price, number)
    return (1, -call.price, number)


def ask_merit(house, quarter):
    numbers = [number for number, call in house.reserves.items() if call.quarter == quarter]
    answer = [ACCEPTED, len(numbers)]
    for number in sorted(numbers, key=lambda found: merit_order(found, house.reserves[found])):
        call = house.reserves[number]
        answer.extend([number, call.hand, call.up, call.much, call.price])
    return answer


def ask_system(now):
    imbalances = sum([imbalance(now, hand) for hand in hand_numbers(now)])
    positions = sum([position(now, hand) for hand in hand_numbers(now)])
    gross = sum(gross_of_hands(now))
    weights = sum(weights_of_hands(now))
    return [ACCEPTED, amount_called(now.calls, 1), amount_called(now.calls, 0), imbalances, positions, gross, weights]


def is_unmatched(now, hand, other):
    return entry(now, nominated_key(hand, other)) != matched(now, hand, other)


def ask_unmatched(now, hand):
    others = [other for other in sorted(nominated_to(now, hand)) if is_unmatched(now, hand, other)]
    answer = [ACCEPTED, len(others)]
    for other in others:
        answer.extend([other, entry(now, nominated_key(hand, other)), matched(now, hand, other)])
    return answer


def ask_pending(house):
    quarters = [quarter for quarter in sorted(house.booked) if is_pending(house, quarter)]
    return [ACCEPTED, len(quarters)] + quarters


def ask_sums(house):
    return [ACCEPTED, house.hands, count_entries(house), len(house.reserves), len(house.booked)]


def ask_split(whole, weights):
    return [ACCEPTED] + shared(whole, weights)
