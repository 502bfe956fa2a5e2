"""The accounts of one house: takes a list of calls and gives back the list of their answers.

For each call, in order, there stand how many numbers are answered, then these.
"""

from carriermoney.claims import bill, effect, owed, reject, show_claim, unbilled
from carriermoney.clearing import check_payments, clear_claims, show_account, show_month, show_nets, show_plan
from carriermoney.forms import call_fits, has_row, name_of, plain_count
from carriermoney.house import House
from carriermoney.refusals import OUT_OF_RANGE
from carriermoney.terms import add_carrier, set_charge, set_rate, suspend
from carriermoney.tickets import cut, fly, issue, refund, show_books, show_part

ON_TERMS = ("carrier", "rate", "charge", "suspend")
ON_TICKETS = ("issue", "cut", "fly", "refund", "part", "books")
ON_CLAIMS = ("bill", "reject", "effect", "owed", "claim", "unbilled")


def answer_on_terms(house, name, plain):
    if name == "carrier":
        return add_carrier(house, plain[0], plain[1])
    if name == "rate":
        return set_rate(house, plain[0], plain[1], plain[2])
    if name == "charge":
        return set_charge(house, plain[0], plain[1], plain[2])
    return suspend(house, plain[0], plain[1])


def answer_on_tickets(house, name, plain, row):
    if name == "issue":
        return issue(house, plain[0], plain[1], plain[2], row)
    if name == "cut":
        return cut(plain[0], row)
    if name == "fly":
        return fly(house, plain[0], plain[1])
    if name == "refund":
        return refund(house, plain[0], plain[1])
    if name == "part":
        return show_part(house, plain[0], plain[1])
    return show_books(house, plain[0])


def answer_on_claims(house, name, plain):
    if name == "bill":
        return bill(house, plain[0], plain[1])
    if name == "reject":
        return reject(house, plain[0], plain[1])
    if name == "effect":
        return effect(house, plain[0])
    if name == "owed":
        return owed(house, plain[0], plain[1])
    if name == "claim":
        return show_claim(house, plain[0])
    return unbilled(house, plain[0], plain[1])


def answer_on_clearing(house, name, plain, row):
    if name == "nets":
        return show_nets(house)
    if name == "plan":
        return show_plan(house)
    if name == "clear":
        return clear_claims(house)
    if name == "account":
        return show_account(house, plain[0])
    if name == "month":
        return show_month(house)
    return check_payments(house, row)


def answer_fitting(house, name, plain, row):
    if name in ON_TERMS:
        return answer_on_terms(house, name, plain)
    if name in ON_TICKETS:
        return answer_on_tickets(house, name, plain, row)
    if name in ON_CLAIMS:
        return answer_on_claims(house, name, plain)
    return answer_on_clearing(house, name, plain, row)


def answer_call(house, place, plain, row):
    if not call_fits(place, plain, row):
        return [OUT_OF_RANGE]
    return answer_fitting(house, name_of(place), plain, row)


def answers(calls):
    house = House()
    given = []
    at = 0
    while at < len(calls):
        place = calls[at]
        plain_end = at + 1 + plain_count(place)
        plain = calls[at + 1:plain_end]
        row = []
        at = plain_end
        if has_row(place):
            at = plain_end + 1 + calls[plain_end]
            row = calls[plain_end + 1:at]
        answer = answer_call(house, place, plain, row)
        given.append(len(answer))
        given.extend(answer)
    return given
