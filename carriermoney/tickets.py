"""The calls on tickets and their parts: issue, cut, fly, refund, part, books."""

from carriermoney.house import FLOWN_AND_BILLED, FLOWN_BY_ISSUER, FLOWN_NOT_BILLED, MOST_TICKETS, NOT_FLOWN, REFUNDED
from carriermoney.house import Part, Ticket
from carriermoney.refusals import FULL, NO_CARRIER, NOT_AS_NEEDED, NOT_THERE, THERE_ALREADY
from carriermoney.spreading import cut_value


def issue(house, t, a, value, row):
    carriers = row[0::3]
    if not house.has_carriers([a] + carriers):
        return [NO_CARRIER]
    if t in house.tickets:
        return [THERE_ALREADY]
    if len(house.tickets) >= MOST_TICKETS:
        return [FULL]
    shares = cut_value(value, row[1::3], row[2::3])
    parts = [Part(carrier, share) for carrier, share in zip(carriers, shares)]
    house.tickets[t] = Ticket(a, value, parts)
    return [0] + shares


def cut(value, row):
    return [0] + cut_value(value, row[0::2], row[1::2])


def fly(house, t, i):
    part = house.part_or_none(t, i)
    if part is None:
        return [NOT_THERE]
    if part.state != NOT_FLOWN:
        return [NOT_AS_NEEDED]
    issuer = house.tickets[t].issuer
    if part.carrier == issuer:
        part.state = FLOWN_BY_ISSUER
    else:
        part.state = FLOWN_NOT_BILLED
        part.kept = part.share * house.charges.get((issuer, part.carrier), 0) // 10000
    return [0, part.share, part.kept]


def refund(house, t, i):
    part = house.part_or_none(t, i)
    if part is None:
        return [NOT_THERE]
    if part.state != NOT_FLOWN:
        return [NOT_AS_NEEDED]
    part.state = REFUNDED
    return [0, part.share]


def show_part(house, t, i):
    part = house.part_or_none(t, i)
    if part is None:
        return [NOT_THERE]
    return [0, part.carrier, part.share, part.kept, part.state, part.claim]


def shares_together(parts, states):
    return sum([part.share for part in parts if part.state in states])


def show_books(house, a):
    if not house.has_carriers([a]):
        return [NO_CARRIER]
    tickets = [ticket for ticket in house.tickets.values() if ticket.issuer == a]
    parts = []
    for ticket in tickets:
        parts.extend(ticket.parts)
    worth = sum([ticket.value for ticket in tickets])
    unflown = shares_together(parts, (NOT_FLOWN,))
    own = shares_together(parts, (FLOWN_BY_ISSUER,))
    # Of a part that nobody else has flown nothing is kept, so all that is kept is of parts flown by others.
    kept = sum([part.kept for part in parts])
    earned = shares_together(parts, (FLOWN_NOT_BILLED, FLOWN_AND_BILLED)) - kept
    return [0, worth, unflown, own, kept, earned, shares_together(parts, (REFUNDED,))]
