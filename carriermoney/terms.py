"""The calls that set what the rest goes by: carrier, rate, charge, suspend."""

from carriermoney.house import Carrier, MOST_CARRIERS
from carriermoney.refusals import FULL, NO_CARRIER, NOT_FITTING, THERE_ALREADY


def add_carrier(house, c, currency):
    if c in house.carriers:
        return [THERE_ALREADY]
    if len(house.carriers) >= MOST_CARRIERS:
        return [FULL]
    house.carriers[c] = Carrier(currency)
    return [0]


def set_rate(house, currency, num, den):
    house.rates[currency] = (num, den)
    return [0]


def set_charge(house, a, b, bp):
    if not house.has_carriers([a, b]):
        return [NO_CARRIER]
    if a == b:
        return [NOT_FITTING]
    house.charges[(a, b)] = bp
    return [0]


def suspend(house, c, flag):
    if not house.has_carriers([c]):
        return [NO_CARRIER]
    carrier = house.carriers[c]
    carrier.suspended = flag == 1
    return [0]
