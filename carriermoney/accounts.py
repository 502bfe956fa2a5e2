"""The accounts of one house: takes a list of calls and gives back the list of their answers.

For each call, in order, there stand how many numbers are answered, then these.
"""

from carriermoney.claims import bill, effect, owed, reject
from carriermoney.forms import call_fits, has_row, name_of, plain_count
from carriermoney.house import House
from carriermoney.refusals import NOT_OF_ITS_FORM, OUT_OF_RANGE
from carriermoney.terms import add_carrier, set_charge, set_rate
from carriermoney.tickets import cut, fly, issue, refund


def answer_fitting(house, name, plain, row):
    if name == "carrier":
        return add_carrier(house, plain[0], plain[1])
    if name == "rate":
        return set_rate(house, plain[0], plain[1], plain[2])
    if name == "charge":
        return set_charge(house, plain[0], plain[1], plain[2])
    if name == "issue":
        return issue(house, plain[0], plain[1], plain[2], row)
    if name == "cut":
        return cut(plain[0], row)
    if name == "fly":
        return fly(house, plain[0], plain[1])
    if name == "refund":
        return refund(house, plain[0], plain[1])
    if name == "bill":
        return bill(house, plain[0], plain[1])
    if name == "reject":
        return reject(house, plain[0], plain[1])
    if name == "effect":
        return effect(house, plain[0])
    if name == "owed":
        return owed(house, plain[0], plain[1])
    # A call that is not built yet is read to its end, so that those behind it are still answered.
    return [NOT_OF_ITS_FORM]


def answer_call(house, place, plain, row):
    if not call_fits(place, plain, row):
        return [OUT_OF_RANGE]
    return answer_fitting(house, name_of(place), plain, row)


def answers(calls):
    house = House()
    given = []
    at = 0
    while at < len(calls):
        place = calls[at]
        plain_end = at + 1 + plain_count(place)
        plain = calls[at + 1:plain_end]
        row = []
        at = plain_end
        if has_row(place):
            at = plain_end + 1 + calls[plain_end]
            row = calls[plain_end + 1:at]
        answer = answer_call(house, place, plain, row)
        given.append(len(answer))
        given.extend(answer)
    return given
