"""What was booked for a quarter, held against what's owed by what's told now."""

from quarterhouse.quarter import owed_now
from quarterhouse.state import QuarterNow


def growth(before, after):
    """By how much each number has grown; one that wasn't there before has grown from 0."""
    known = before + [0] * (len(after) - len(before))
    return [number - earlier for number, earlier in zip(after, known, strict=True)]


def is_pending(house, quarter):
    """Whether what somebody owes by what's told now isn't what's booked for the quarter."""
    owed = owed_now(QuarterNow(house, quarter))
    return any([number != 0 for number in growth(house.booked[quarter], owed)])


def listed(numbers):
    """Settle's form: how many aren't 0, then each of these with its place before it."""
    answer = [len([number for number in numbers if number != 0])]
    for place, number in enumerate(numbers):
        if number != 0:
            answer.append(place)
            answer.append(number)
    return answer
