"""The calls on one house, one behind another in one list, and what they answer."""

from quarterhouse.asks import ask_matched, ask_position
from quarterhouse.changes import (
    add_hand, add_reserve, begin, drop_reserve, lock, nominate, settle, tell_ahead, tell_of_hand,
)
from quarterhouse.limits import (
    AHEAD, ARGUMENTS, HAND, MARKET, METER, NOMINATE, NOT_OPEN, OPEN, OUT_OF_RANGE, POSITION, RANGES,
    RESERVE, SETTLE, UNRESERVE,
)
from quarterhouse.state import House, Reserve, Rules, market_key, metered_key, weight_key


def answers(calls):
    """For each call how many numbers it answers, then these."""
    house = House()
    answered = []
    place = 0
    while place < len(calls):
        number = calls[place]
        end = place + 1 + len(ARGUMENTS[number])
        answer = answer_of(house, number, calls[place + 1:end])
        answered.append(len(answer))
        answered.extend(answer)
        place = end
    return answered


def answer_of(house, number, given):
    if not all_within(ARGUMENTS[number], given):
        return [OUT_OF_RANGE]
    if number == OPEN:
        return begin(house, Rules(given[0], given[1], given[2], given[3], given[4], given[5]))
    if house.rules is None:
        return [NOT_OPEN]
    if number < RESERVE:
        return answer_telling(house, number, given)
    if number < POSITION:
        return answer_booking(house, number, given)
    return answer_asking(house, number, given)


def all_within(kinds, given):
    return all([is_within(RANGES[kind], number) for kind, number in zip(kinds, given, strict=True)])


def is_within(bounds, number):
    return bounds[0] <= number <= bounds[1]


def answer_telling(house, number, given):
    """The calls by which hands come and entries are told."""
    if number == HAND:
        return add_hand(house)
    if number == AHEAD:
        return tell_ahead(house, given[0], given[1])
    if number == NOMINATE:
        return nominate(house, given[0], given[1], given[2], given[3])
    return tell_of_hand(house, given[0], given[1], hand_key(number, given[0]), given[2])


def hand_key(number, hand):
    if number == MARKET:
        return market_key(hand)
    if number == METER:
        return metered_key(hand)
    return weight_key(hand)


def answer_booking(house, number, given):
    """The calls about reserve and about what's booked."""
    if number == RESERVE:
        return add_reserve(house, Reserve(given[0], given[1], given[2], given[3], given[4]))
    if number == UNRESERVE:
        return drop_reserve(house, given[0])
    if number == SETTLE:
        return settle(house, given[0])
    return lock(house, given[0])


def answer_asking(house, number, given):
    if number == POSITION:
        return ask_position(house, given[0], given[1])
    return ask_matched(house, given[0], given[1], given[2])
