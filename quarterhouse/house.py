"""The calls on one house, one behind another in one list, and what they answer."""

from quarterhouse.asks import (
    ask_account, ask_booked, ask_fresh, ask_imbalance, ask_matched, ask_merit, ask_parts, ask_pending, ask_position,
    ask_prices, ask_split, ask_sums, ask_system, ask_unmatched,
)
from quarterhouse.changes import (
    add_hand, add_reserve, begin, drop_reserve, lock, nominate, settle, tell_ahead, tell_of_hand,
)
from quarterhouse.limits import (
    ACCOUNT, AHEAD, ARGUMENTS, BOOKED, FRESH, HAND, IMBALANCE, MARKET, MATCHED, MERIT, METER, NO_SUCH_HAND, NOMINATE,
    NOT_OPEN, OPEN, OUT_OF_RANGE, PARTS, PENDING, POSITION, PRICES, RANGES, RESERVE, SETTLE, SPLIT, SUMS, UNRESERVE,
)
from quarterhouse.state import House, QuarterNow, Reserve, Rules, has_hand, market_key, metered_key, weight_key


def answers(calls):
    """For each call how many numbers it answers, then these."""
    house = House()
    answered = []
    place = 0
    while place < len(calls):
        end = end_of_call(calls, place)
        answer = answer_of(house, calls[place], calls[place + 1:end])
        answered.append(len(answer))
        answered.extend(answer)
        place = end
    return answered


def end_of_call(calls, place):
    """Where the next call stands; a split's weights stand behind its arguments, the last of which is their count."""
    end = place + 1 + len(ARGUMENTS[calls[place]])
    if calls[place] == SPLIT:
        return end + calls[end - 1]
    return end


def answer_of(house, number, given):
    if not all_within(number, given):
        return [OUT_OF_RANGE]
    if number == OPEN:
        return begin(house, Rules(given[0], given[1], given[2], given[3], given[4], given[5]))
    if house.rules is None:
        return [NOT_OPEN]
    if number < RESERVE:
        return answer_telling(house, number, given)
    if number < POSITION:
        return answer_booking(house, number, given)
    return answer_asking(house, number, given)


def all_within(number, given):
    kinds = ARGUMENTS[number]
    # What stands behind a call's own arguments can only be weights.
    kinds = kinds + ("weight",) * (len(given) - len(kinds))
    return all([is_within(RANGES[kind], argument) for kind, argument in zip(kinds, given, strict=True)])


def is_within(bounds, number):
    return bounds[0] <= number <= bounds[1]


def answer_telling(house, number, given):
    """The calls by which hands come and entries are told."""
    if number == HAND:
        return add_hand(house)
    if number == AHEAD:
        return tell_ahead(house, given[0], given[1])
    if number == NOMINATE:
        return nominate(house, given[0], given[1], given[2], given[3])
    return tell_of_hand(house, given[0], given[1], hand_key(number, given[0]), given[2])


def hand_key(number, hand):
    if number == MARKET:
        return market_key(hand)
    if number == METER:
        return metered_key(hand)
    return weight_key(hand)


def answer_booking(house, number, given):
    """The calls about reserve and about what's booked."""
    if number == RESERVE:
        return add_reserve(house, Reserve(given[0], given[1], given[2], given[3], given[4]))
    if number == UNRESERVE:
        return drop_reserve(house, given[0])
    if number == SETTLE:
        return settle(house, given[0])
    return lock(house, given[0])


def answer_asking(house, number, given):
    if ARGUMENTS[number] == ("hand", "quarter"):
        return answer_of_hand(house, number, given[0], given[1])
    if ARGUMENTS[number] == ("quarter",):
        return answer_of_quarter(house, number, given[0])
    if number == MATCHED:
        return ask_matched(house, given[0], given[1], given[2])
    if number == ACCOUNT:
        return ask_account(house, given[0])
    if number == PENDING:
        return ask_pending(house)
    if number == SUMS:
        return ask_sums(house)
    return ask_split(given[0], given[2:])


def answer_of_hand(house, number, hand, quarter):
    """The calls that ask of one hand in one quarter."""
    if not has_hand(house, hand):
        return [NO_SUCH_HAND]
    now = QuarterNow(house, quarter)
    if number == POSITION:
        return ask_position(now, hand)
    if number == IMBALANCE:
        return ask_imbalance(now, hand)
    if number == PARTS:
        return ask_parts(now, hand)
    return ask_unmatched(now, hand)


def answer_of_quarter(house, number, quarter):
    """The calls that ask of one quarter."""
    if number == BOOKED:
        return ask_booked(house, quarter)
    if number == MERIT:
        return ask_merit(house, quarter)
    now = QuarterNow(house, quarter)
    if number == PRICES:
        return ask_prices(now)
    if number == FRESH:
        return ask_fresh(now)
    return ask_system(now)
