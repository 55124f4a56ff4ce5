"""A whole shared by weights, to the unit."""


def shared(whole, weights):
    """Of a whole below 0 each gets minus what it would get of the whole above 0; without any weight nobody gets any."""
    if sum(weights) == 0:
        return [0] * len(weights)
    if whole < 0:
        return [-share for share in shared_above(-whole, weights)]
    return shared_above(whole, weights)


def shared_above(whole, weights):
    total = sum(weights)
    shares = [whole * weight // total for weight in weights]
    remainders = [whole * weight % total for weight in weights]
    lacking = whole - sum(shares)
    # The sort leaves those with the same remainder in their order, so the earlier one comes first.
    places = sorted(range(len(weights)), key=lambda at: -remainders[at])
    for place in places[:lacking]:
        shares[place] = shares[place] + 1
    return shares
