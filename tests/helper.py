"""What the tests share: the calls as (place, plain arguments, row or None), and how they are run."""

import unittest

from carriermoney.accounts import answer_call, answers
from carriermoney.house import House

FAR = 2000000000000000000

# How many plain arguments each place has, and which places have a row, as the interface tells them.
PLAIN_COUNTS = (2, 3, 3, 3, 1, 2, 2, 2, 2, 1, 2, 0, 0, 2, 0, 1, 1, 2, 1, 2, 0, 0)
ROWED = (3, 4, 21)


def carrier(c, currency=0):
    return (0, [c, currency], None)


def rate(currency, num, den):
    return (1, [currency, num, den], None)


def charge(a, b, bp):
    return (2, [a, b, bp], None)


def issue(t, a, value, *parts):
    """Each part is (carrier, factor, fixed share)."""
    return (3, [t, a, value], [number for part in parts for number in part])


def cut(value, *parts):
    """Each part is (factor, fixed share)."""
    return (4, [value], [number for part in parts for number in part])


def fly(t, i):
    return (5, [t, i], None)


def refund(t, i):
    return (6, [t, i], None)


def bill(b, a):
    return (7, [b, a], None)


def reject(number, r):
    return (8, [number, r], None)


def effect(number):
    return (9, [number], None)


def owed(a, b):
    return (10, [a, b], None)


def flat(calls):
    """The calls one behind another in one list, as the interface takes them."""
    numbers = []
    for place, plain, row in calls:
        assert len(plain) == PLAIN_COUNTS[place] and (row is not None) == (place in ROWED)
        numbers.append(place)
        numbers.extend(plain)
        if row is not None:
            numbers.append(len(row))
            numbers.extend(row)
    return numbers


def split(given):
    """The answers, each a list, of what the interface gives back."""
    found = []
    at = 0
    while at < len(given):
        size = given[at]
        assert size >= 1 and at + 1 + size <= len(given)
        found.append(given[at + 1:at + 1 + size])
        at += 1 + size
    return found


def run(calls):
    """The answers to the calls; looks each time that the list is left as it was and that a second run is alike."""
    numbers = flat(calls)
    before = list(numbers)
    first = answers(numbers)
    assert numbers == before, "the list handed in was changed"
    assert answers(numbers) == first, "a second run answered otherwise"
    assert isinstance(first, list) and all(type(number) is int for number in first)
    found = split(first)
    assert len(found) == len(calls), "not one answer for each call"
    return found


def last(calls):
    return run(calls)[-1]


def do(house, calls):
    """The answers to the calls on a house that is there already."""
    return [answer_call(house, place, plain, row or []) for place, plain, row in calls]


def snapshot(thing):
    """All that a house keeps, as plain values."""
    if isinstance(thing, dict):
        return [(key, snapshot(value)) for key, value in thing.items()]
    if isinstance(thing, (list, tuple)):
        return [snapshot(value) for value in thing]
    if hasattr(thing, "__dict__"):
        return snapshot(vars(thing))
    return thing


class HouseTest(unittest.TestCase):
    def refused(self, before, call, number, house=None):
        """Looks that the call is refused by this number, and that it changes nothing."""
        if house is None:
            self.assertEqual(last(before + [call]), [number])
            house = House()
        do(house, before)
        kept = snapshot(house)
        self.assertEqual(do(house, [call]), [[number]])
        self.assertEqual(snapshot(house), kept)
