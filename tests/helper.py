"""What the tests share: the calls as (place, plain arguments, row or None), and how they are run."""

import itertools
import unittest

from carriermoney.accounts import answer_call, answers
from carriermoney.house import House

FAR = 2000000000000000000

# How many plain arguments each place has, and which places have a row, as the interface tells them.
PLAIN_COUNTS = (2, 3, 3, 3, 1, 2, 2, 2, 2, 1, 2, 0, 0, 2, 0, 1, 1, 2, 1, 2, 0, 0)
ROWED = (3, 4, 21)


def carrier(c, currency=0):
    return (0, [c, currency], None)


def rate(currency, num, den):
    return (1, [currency, num, den], None)


def charge(a, b, bp):
    return (2, [a, b, bp], None)


def issue(t, a, value, *parts):
    """Each part is (carrier, factor, fixed share)."""
    return (3, [t, a, value], [number for part in parts for number in part])


def cut(value, *parts):
    """Each part is (factor, fixed share)."""
    return (4, [value], [number for part in parts for number in part])


def fly(t, i):
    return (5, [t, i], None)


def refund(t, i):
    return (6, [t, i], None)


def bill(b, a):
    return (7, [b, a], None)


def reject(number, r):
    return (8, [number, r], None)


def effect(number):
    return (9, [number], None)


def owed(a, b):
    return (10, [a, b], None)


def nets():
    return (11, [], None)


def plan():
    return (12, [], None)


def suspend(c, flag):
    return (13, [c, flag], None)


def clear():
    return (14, [], None)


def account(c):
    return (15, [c], None)


def books(a):
    return (16, [a], None)


def part(t, i):
    return (17, [t, i], None)


def claim(number):
    return (18, [number], None)


def unbilled(b, a):
    return (19, [b, a], None)


def month():
    return (20, [], None)


def check(*payments):
    """Each payment is (who pays, who gets, the amount)."""
    return (21, [], [number for payment in payments for number in payment])


def owing(*debts, first=1):
    """For each debt (of, to, amount) a claim, by a ticket with one part; the tickets are numbered from first."""
    calls = []
    for t, (of, to, amount) in enumerate(debts, start=first):
        calls += [issue(t, of, amount, (to, 1, 0)), fly(t, 0), bill(to, of)]
    return calls


def with_nets(sums):
    """Carriers, in the order in which they stand, with claims that give them these net sums."""
    left = dict(sums)
    debts = []
    while any(left.values()):
        # From the greatest to the greatest, so that the claims are not those that the plan would pay.
        of = min(left, key=lambda c: left[c])
        to = max(left, key=lambda c: left[c])
        amount = min(-left[of], left[to])
        left[of] += amount
        left[to] -= amount
        debts.append((of, to, amount))
    return [carrier(c) for c in sums] + owing(*debts)


def partings(nets, carriers):
    """All partings of these carriers, which rise, into groups; each a list of groups, by their smallest carrier."""
    if not carriers:
        yield []
        return
    smallest, others = carriers[0], carriers[1:]
    for size in range(len(others) + 1):
        for chosen in itertools.combinations(others, size):
            group = [smallest] + list(chosen)
            if sum(nets[c] for c in group) == 0:
                for rest in partings(nets, [c for c in others if c not in chosen]):
                    yield [group] + rest


def groups_by_the_words(nets):
    """The groups of the plan, found by going through all partings."""
    found = list(partings(nets, sorted(c for c in nets if nets[c] != 0)))
    most = max(len(parting) for parting in found)
    return min((parting for parting in found if len(parting) == most),
               key=lambda parting: [(len(group), group) for group in parting])


def plan_by_the_words(nets):
    left = dict(nets)
    payments = []
    for group in groups_by_the_words(nets):
        while any(left[c] for c in group):
            pays = min(c for c in group if left[c] < 0)
            gets = min(c for c in group if left[c] > 0)
            amount = min(abs(left[pays]), abs(left[gets]))
            left[pays] += amount
            left[gets] -= amount
            payments.append((pays, gets, amount))
    return payments


def grouped(answer, width):
    """What stands behind the answer's 0, in tuples of this width."""
    assert answer[0] == 0 and (len(answer) - 1) % width == 0
    return [tuple(answer[at:at + width]) for at in range(1, len(answer), width)]


def flat(calls):
    """The calls one behind another in one list, as the interface takes them."""
    numbers = []
    for place, plain, row in calls:
        assert len(plain) == PLAIN_COUNTS[place] and (row is not None) == (place in ROWED)
        numbers.append(place)
        numbers.extend(plain)
        if row is not None:
            numbers.append(len(row))
            numbers.extend(row)
    return numbers


def split(given):
    """The answers, each a list, of what the interface gives back."""
    found = []
    at = 0
    while at < len(given):
        size = given[at]
        assert size >= 1 and at + 1 + size <= len(given)
        found.append(given[at + 1:at + 1 + size])
        at += 1 + size
    return found


def run(calls):
    """The answers to the calls; looks each time that the list is left as it was and that a second run is alike."""
    numbers = flat(calls)
    before = list(numbers)
    first = answers(numbers)
    assert numbers == before, "the list handed in was changed"
    assert answers(numbers) == first, "a second run answered otherwise"
    assert isinstance(first, list) and all(type(number) is int for number in first)
    found = split(first)
    assert len(found) == len(calls), "not one answer for each call"
    return found


def last(calls):
    return run(calls)[-1]


def do(house, calls):
    """The answers to the calls on a house that is there already."""
    return [answer_call(house, place, plain, row or []) for place, plain, row in calls]


def snapshot(thing):
    """All that a house keeps, as plain values."""
    if isinstance(thing, dict):
        return [(key, snapshot(value)) for key, value in thing.items()]
    if isinstance(thing, (list, tuple)):
        return [snapshot(value) for value in thing]
    if hasattr(thing, "__dict__"):
        return snapshot(vars(thing))
    return thing


class HouseTest(unittest.TestCase):
    def refused(self, before, call, number):
        """Looks that the call is refused by this number, and that it changes nothing."""
        self.assertEqual(last(before + [call]), [number])
        self.assertEqual(self.unchanged(before, call), [number])

    def unchanged(self, before, call):
        """The answer to the call; looks that it changes nothing."""
        house = House()
        do(house, before)
        kept = snapshot(house)
        answer = do(house, [call])[0]
        self.assertEqual(snapshot(house), kept)
        return answer
