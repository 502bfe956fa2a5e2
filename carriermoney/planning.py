"""The plan: the payments that settle net sums, group by group, with as many groups as can be.

A set of carriers is written as a whole number here, the sum of its carriers' bits, so that what is known
of each set stands in a list at that number. The carriers' places rise with their numbers.
"""


def bits_for(count):
    bits = []
    bit = 1
    while len(bits) < count:
        bits.append(bit)
        bit += bit
    return bits


def places_in(chosen, bits):
    return [place for place, bit in enumerate(bits) if (chosen & bit) != 0]


def sums_of_sets(amounts):
    sums = [0]
    for amount in amounts:
        # The sets with this carrier come behind all those without it, in the same order: so each stands at its number.
        sums = sums + [known + amount for known in sums]
    return sums


def most_groups_of_sets(sums, bits):
    # If a set is taken apart carrier by carrier, a whole group at a time, what is left has the sum 0 once for
    # each group: so it is enough to look at the sets with one carrier fewer, and not at every parting.
    most = [0]
    for chosen in range(1, len(sums)):
        found = max([most[chosen - bit] for bit in bits if (chosen & bit) != 0])
        most.append(found + 1 if sums[chosen] == 0 else found)
    return most


def may_be_first(group, left, sums, most):
    return sums[group] == 0 and most[left - group] == most[left] - 1


def first_group(left, sums, most, bits):
    smallest = bits[places_in(left, bits)[0]]
    with_smallest = [chosen for chosen in range(left + 1) if (chosen & left) == chosen and (chosen & smallest) != 0]
    groups = [places_in(chosen, bits) for chosen in with_smallest if may_be_first(chosen, left, sums, most)]
    return min(groups, key=lambda places: (len(places), places))


def part_into_groups(nets):
    carriers = sorted([carrier for carrier in nets if nets[carrier] != 0])
    bits = bits_for(len(carriers))
    sums = sums_of_sets([nets[carrier] for carrier in carriers])
    most = most_groups_of_sets(sums, bits)
    groups = []
    left = sum(bits)
    while left != 0:
        places = first_group(left, sums, most, bits)
        groups.append([carriers[place] for place in places])
        left -= sum([bits[place] for place in places])
    return groups


def payments_in_group(group, nets):
    left = dict(nets)
    payments = []
    payers = [carrier for carrier in group if left[carrier] < 0]
    while len(payers) > 0:
        payer = min(payers)
        getter = min([carrier for carrier in group if left[carrier] > 0])
        amount = min(-left[payer], left[getter])
        payments.append((payer, getter, amount))
        left[payer] += amount
        left[getter] -= amount
        payers = [carrier for carrier in group if left[carrier] < 0]
    return payments


def plan_payments(nets):
    payments = []
    for group in part_into_groups(nets):
        payments.extend(payments_in_group(group, nets))
    return payments
