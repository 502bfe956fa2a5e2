"""The calls on claims: bill, reject, effect, owed, claim, unbilled."""

from carriermoney.house import FLOWN_AND_BILLED, FLOWN_NOT_BILLED, MOST_CLAIMS, MOST_DEPTH, MOST_MONTHS_BACK, Claim
from carriermoney.refusals import FULL, NO_CARRIER, NOT_AS_NEEDED, NOT_FITTING, NOT_THERE


def in_clearing(house, currency, amount):
    if currency == 0:
        return amount
    rate = house.rates[currency]
    num = rate[0]
    den = rate[1]
    # All is doubled, so that half of den, which is added to round halves up, is a whole number too.
    return (2 * amount * num + den) // (2 * den)


def unbilled_parts(house, b, a):
    found = []
    for ticket in house.tickets.values():
        if ticket.issuer == a:
            found.extend([part for part in ticket.parts if part.carrier == b and part.state == FLOWN_NOT_BILLED])
    return found


def bill_part(house, b, a, part):
    amount = in_clearing(house, house.carriers[a].currency, part.share - part.kept)
    part.claim = house.add_claim(Claim(b, a, amount, house.month, 0, 0))
    part.state = FLOWN_AND_BILLED
    return [part.claim, amount]


def bill(house, b, a):
    if not house.has_carriers([b, a]):
        return [NO_CARRIER]
    if a == b:
        return [NOT_FITTING]
    currency = house.carriers[a].currency
    if currency != 0 and currency not in house.rates:
        return [NOT_AS_NEEDED]
    parts = unbilled_parts(house, b, a)
    if len(house.claims) + len(parts) > MOST_CLAIMS:
        return [FULL]
    answer = [0]
    for part in parts:
        answer.extend(bill_part(house, b, a, part))
    return answer


def may_be_rejected(house, claim):
    if claim.rejected_by != 0 or claim.depth >= MOST_DEPTH:
        return False
    return house.month - claim.month <= MOST_MONTHS_BACK


def reject(house, number, r):
    claim = house.claim_or_none(number)
    if claim is None:
        return [NOT_THERE]
    if not may_be_rejected(house, claim):
        return [NOT_AS_NEEDED]
    if r > claim.amount:
        return [NOT_FITTING]
    if len(house.claims) >= MOST_CLAIMS:
        return [FULL]
    rejection = Claim(claim.of, claim.to, r, house.month, claim.depth + 1, number)
    claim.rejected_by = house.add_claim(rejection)
    return [0, claim.rejected_by]


def effect(house, number):
    claim = house.claim_or_none(number)
    if claim is None:
        return [NOT_THERE]
    total = 0
    sign = 1
    while claim is not None:
        total += sign * claim.amount
        sign = -sign
        claim = house.claim_or_none(claim.rejected_by)
    return [0, total]


def unsettled_sum(house, to, of):
    return sum([claim.amount for claim in house.claims if claim.to == to and claim.of == of and not claim.settled])


def owed(house, a, b):
    if not house.has_carriers([a, b]):
        return [NO_CARRIER]
    return [0, unsettled_sum(house, b, a), unsettled_sum(house, a, b)]


def show_claim(house, number):
    claim = house.claim_or_none(number)
    if claim is None:
        return [NOT_THERE]
    made = [claim.to, claim.of, claim.amount, claim.month, claim.depth, claim.parent]
    return [0] + made + [claim.rejected_by, 1 if claim.settled else 0]


def unbilled(house, b, a):
    if not house.has_carriers([b, a]):
        return [NO_CARRIER]
    if a == b:
        return [NOT_FITTING]
    parts = unbilled_parts(house, b, a)
    return [0, len(parts), sum([part.share - part.kept for part in parts])]
