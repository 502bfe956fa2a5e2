"""How an amount is spread by weights, and how a value is cut into shares."""


def spread(amount, weights):
    if sum(weights) == 0:
        weights = [1] * len(weights)
    total = sum(weights)
    given = [amount * weight // total for weight in weights]
    rests = [amount * weight % total for weight in weights]
    left = amount - sum(given)
    # `sorted` leaves like ones in their order, so of like rests the earlier place comes first.
    order = sorted(range(len(weights)), key=lambda at: -rests[at])
    for at in order[:left]:
        given[at] += 1
    return given


def cut_value(value, factors, fixed):
    left = value - sum(fixed)
    if left < 0 or 0 not in fixed:
        return spread(value, fixed)
    others = [at for at, share in enumerate(fixed) if share == 0]
    spread_shares = spread(left, [factors[at] for at in others])
    shares = list(fixed)
    for at, share in zip(others, spread_shares):
        shares[at] = share
    return shares
