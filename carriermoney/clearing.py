"""The calls on the clearing and what comes of it: nets, plan, clear, account, month, check."""

from carriermoney.planning import plan_payments
from carriermoney.refusals import NO_CARRIER


def would_be_cleared(house, claim):
    if claim.settled:
        return False
    return not house.carriers[claim.to].suspended and not house.carriers[claim.of].suspended


def claims_to_clear(house):
    return [claim for claim in house.claims if would_be_cleared(house, claim)]


def net_sums(house):
    nets = {}
    for number in sorted(house.carriers):
        nets[number] = 0
    for claim in claims_to_clear(house):
        nets[claim.to] += claim.amount
        nets[claim.of] -= claim.amount
    return nets


def show_nets(house):
    answer = [0]
    for number, net in net_sums(house).items():
        answer.extend([number, net])
    return answer


def answer_payments(payments):
    answer = [0]
    for payment in payments:
        answer.extend(payment)
    return answer


def show_plan(house):
    return answer_payments(plan_payments(net_sums(house)))


def make_payment(house, payment):
    payer = house.carriers[payment[0]]
    getter = house.carriers[payment[1]]
    payer.paid += payment[2]
    getter.got += payment[2]


def clear_claims(house):
    payments = plan_payments(net_sums(house))
    for payment in payments:
        make_payment(house, payment)
    for claim in claims_to_clear(house):
        claim.settled = True
    house.month += 1
    return answer_payments(payments)


def unsettled_balance(house, c):
    unsettled = [claim for claim in house.claims if not claim.settled]
    to_get = sum([claim.amount for claim in unsettled if claim.to == c])
    to_pay = sum([claim.amount for claim in unsettled if claim.of == c])
    return to_get - to_pay


def show_account(house, c):
    if not house.has_carriers([c]):
        return [NO_CARRIER]
    carrier = house.carriers[c]
    suspended = 1 if carrier.suspended else 0
    return [0, carrier.currency, suspended, carrier.paid, carrier.got, unsettled_balance(house, c)]


def show_month(house):
    return [0, house.month]


def check_payments(house, row):
    payers = row[0::3]
    getters = row[1::3]
    if not house.has_carriers(payers + getters):
        return [NO_CARRIER]
    left = net_sums(house)
    for payer, getter, amount in zip(payers, getters, row[2::3]):
        left[payer] += amount
        left[getter] -= amount
    return [0, 1 if all([net == 0 for net in left.values()]) else 0]
