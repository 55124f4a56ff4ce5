"""What was booked for a quarter, held against what's owed by what's told now."""


def growth(before, after):
    """By how much each number has grown; one that wasn't there before has grown from 0."""
    known = before + [0] * (len(after) - len(before))
    return [number - earlier for number, earlier in zip(after, known, strict=True)]


def is_same(before, after):
    return all([number == 0 for number in growth(before, after)])


def listed(numbers):
    """Settle's form: how many aren't 0, then each of these with its place before it."""
    answer = [len([number for number in numbers if number != 0])]
    for place, number in enumerate(numbers):
        if number != 0:
            answer.append(place)
            answer.append(number)
    return answer
