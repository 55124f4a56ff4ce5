"""The calls that change a house; each answers a list of numbers, and a refused one changes nothing."""

from quarterhouse.bookings import growth, is_pending, listed
from quarterhouse.limits import (
    ACCEPTED, FULL, HIGH_BELOW_LOW, LOCKED, MOST_BOOKED, MOST_ENTRIES, MOST_HANDS, MOST_RESERVES,
    MOST_RESERVES_TOLD, NO_SUCH_HAND, NO_SUCH_RESERVE, NOT_AS_BOOKED, OPEN_ALREADY, PRICE_BEYOND_RULES, SAME_HAND,
)
from quarterhouse.quarter import owed_now
from quarterhouse.state import (
    QuarterNow, ahead_key, count_entries, has_hand, is_entry, is_locked, nominated_key, set_entry,
)


def begin(house, rules):
    if house.rules is not None:
        return [OPEN_ALREADY]
    if rules.high < rules.low:
        return [HIGH_BELOW_LOW]
    house.rules = rules
    return [ACCEPTED]


def add_hand(house):
    if house.hands == MOST_HANDS:
        return [FULL]
    house.hands = house.hands + 1
    return [ACCEPTED, house.hands]


def is_beyond_rules(house, price):
    return price < house.rules.low or price > house.rules.high


def tell(house, quarter, key, number):
    if is_locked(house, quarter):
        return [LOCKED]
    is_one_more = number != 0 and not is_entry(house, quarter, key)
    if is_one_more and count_entries(house) == MOST_ENTRIES:
        return [FULL]
    set_entry(house, quarter, key, number)
    return [ACCEPTED]


def tell_of_hand(house, hand, quarter, key, number):
    if not has_hand(house, hand):
        return [NO_SUCH_HAND]
    return tell(house, quarter, key, number)


def tell_ahead(house, quarter, price):
    if is_beyond_rules(house, price):
        return [PRICE_BEYOND_RULES]
    return tell(house, quarter, ahead_key(), price)


def nominate(house, hand, to, quarter, amount):
    if not has_hand(house, hand) or not has_hand(house, to):
        return [NO_SUCH_HAND]
    if hand == to:
        return [SAME_HAND]
    return tell(house, quarter, nominated_key(hand, to), amount)


def add_reserve(house, call):
    if not has_hand(house, call.hand):
        return [NO_SUCH_HAND]
    if is_beyond_rules(house, call.price):
        return [PRICE_BEYOND_RULES]
    if is_locked(house, call.quarter):
        return [LOCKED]
    if len(house.reserves) == MOST_RESERVES or house.reserves_told == MOST_RESERVES_TOLD:
        return [FULL]
    house.reserves_told = house.reserves_told + 1
    house.reserves[house.reserves_told] = call
    return [ACCEPTED, house.reserves_told]


def drop_reserve(house, number):
    if number not in house.reserves:
        return [NO_SUCH_RESERVE]
    if is_locked(house, house.reserves[number].quarter):
        return [LOCKED]
    house.reserves.pop(number)
    return [ACCEPTED]


def settle(house, quarter):
    if is_locked(house, quarter):
        return [LOCKED]
    if quarter not in house.booked and len(house.booked) == MOST_BOOKED:
        return [FULL]
    before = house.booked.get(quarter, [])
    owed = owed_now(QuarterNow(house, quarter))
    house.booked[quarter] = owed
    return [ACCEPTED] + listed(growth(before, owed))


def lock(house, quarter):
    if quarter not in house.booked:
        return [NOT_AS_BOOKED]
    if is_locked(house, quarter):
        return [LOCKED]
    if is_pending(house, quarter):
        return [NOT_AS_BOOKED]
    house.locked[quarter] = True
    return [ACCEPTED]
