"""The calls on tickets and their parts: issue, cut, fly, refund."""

from carriermoney.house import FLOWN_BY_ISSUER, FLOWN_NOT_BILLED, MOST_TICKETS, NOT_FLOWN, REFUNDED, Part, Ticket
from carriermoney.refusals import FULL, NO_CARRIER, NOT_AS_NEEDED, NOT_THERE, THERE_ALREADY
from carriermoney.spreading import cut_value


def issue(house, t, a, value, row):
    carriers = row[0::3]
    if not house.has_carriers([a] + carriers):
        return [NO_CARRIER]
    if t in house.tickets:
        return [THERE_ALREADY]
    if len(house.tickets) >= MOST_TICKETS:
        return [FULL]
    shares = cut_value(value, row[1::3], row[2::3])
    parts = [Part(carrier, share) for carrier, share in zip(carriers, shares)]
    house.tickets[t] = Ticket(a, value, parts)
    return [0] + shares


def cut(value, row):
    return [0] + cut_value(value, row[0::2], row[1::2])


def fly(house, t, i):
    part = house.part_or_none(t, i)
    if part is None:
        return [NOT_THERE]
    if part.state != NOT_FLOWN:
        return [NOT_AS_NEEDED]
    issuer = house.tickets[t].issuer
    if part.carrier == issuer:
        part.state = FLOWN_BY_ISSUER
    else:
        part.state = FLOWN_NOT_BILLED
        part.kept = part.share * house.charges.get((issuer, part.carrier), 0) // 10000
    return [0, part.share, part.kept]


def refund(house, t, i):
    part = house.part_or_none(t, i)
    if part is None:
        return [NOT_THERE]
    if part.state != NOT_FLOWN:
        return [NOT_AS_NEEDED]
    part.state = REFUNDED
    return [0, part.share]
