"""Promises 3 to 6: issue, cut, fly, refund, and the shares that they go by."""

import unittest
from fractions import Fraction

from carriermoney.house import House
from carriermoney.spreading import spread
from tests.helper import HouseTest, bill, carrier, charge, cut, do, fly, issue, last, refund, run

THREE = [carrier(1), carrier(2), carrier(3)]
FULL_TABLE = THREE + [issue(t, 1, 10, (2, 1, 0)) for t in range(1, 41)]


def shares(value, *parts):
    """The shares by cut; looks that issue answers the same."""
    answer = last([cut(value, *parts)])
    issued = last([carrier(5), issue(1, 5, value, *[(5, factor, fixed) for factor, fixed in parts])])
    assert issued == answer and answer[0] == 0
    return answer[1:]


def spread_by_units(amount, weights):
    """What the words say of spreading, gone through unit by unit."""
    if not any(weights):
        weights = [1 for weight in weights]
    dues = [Fraction(amount * weight, sum(weights)) for weight in weights]
    given = [int(due) for due in dues]
    waiting = list(range(len(weights)))
    while sum(given) < amount:
        best = max(waiting, key=lambda at: (dues[at] - int(dues[at]), -at))
        given[best] += 1
        waiting.remove(best)
    return given


class SpreadTest(unittest.TestCase):
    def test_whole_dues(self):
        self.assertEqual(spread(60, [1, 2, 3]), [10, 20, 30])

    def test_greatest_rest_first(self):
        self.assertEqual(spread(10, [1, 2, 4]), [1, 3, 6])
        self.assertEqual(spread(5, [1, 2, 4]), [1, 1, 3])

    def test_like_rests_earlier_first(self):
        self.assertEqual(spread(100, [1, 1, 1]), [34, 33, 33])
        self.assertEqual(spread(101, [1, 1, 1]), [34, 34, 33])
        self.assertEqual(spread(2, [5, 5, 5, 5]), [1, 1, 0, 0])

    def test_all_weights_0_count_as_1(self):
        self.assertEqual(spread(7, [0, 0, 0]), [3, 2, 2])
        self.assertEqual(spread(7, [0]), [7])

    def test_a_single_weight_of_0_gets_nothing(self):
        self.assertEqual(spread(7, [0, 3, 0]), [0, 7, 0])
        self.assertEqual(spread(7, [0, 3, 3]), [0, 4, 3])

    def test_amount_0(self):
        self.assertEqual(spread(0, [1, 2]), [0, 0])
        self.assertEqual(spread(0, [0, 0]), [0, 0])

    def test_great_numbers_stay_whole(self):
        eight = [1000000, 999999, 999998, 999997, 3, 2, 1, 0]
        self.assertEqual(spread(1000000000, eight), spread_by_units(1000000000, eight))

    def test_as_the_words_say(self):
        for amount in range(24):
            for first in range(5):
                for second in range(5):
                    for third in range(5):
                        weights = [first, second, third, 2]
                        self.assertEqual(spread(amount, weights), spread_by_units(amount, weights))


class CutTest(HouseTest):
    def test_one_part_gets_all(self):
        self.assertEqual(shares(1000, (5, 0)), [1000])
        self.assertEqual(shares(1000, (0, 0)), [1000])
        self.assertEqual(shares(1000, (5, 300)), [1000])
        self.assertEqual(shares(1000, (5, 3000)), [1000])

    def test_by_factors(self):
        self.assertEqual(shares(1000, (1, 0), (2, 0), (1, 0)), [250, 500, 250])

    def test_eight_parts(self):
        parts = [(factor, 0) for factor in (1, 2, 3, 4, 5, 6, 7, 8)]
        self.assertEqual(shares(100, *parts), [3, 6, 8, 11, 14, 17, 19, 22])

    def test_fixed_shares_come_first(self):
        self.assertEqual(shares(1000, (1, 0), (9, 400), (2, 0)), [200, 400, 400])

    def test_the_factor_of_a_fixed_part_does_not_count(self):
        self.assertEqual(shares(100, (1000000, 40), (1, 0), (1, 0)), [40, 30, 30])

    def test_fixed_shares_together_just_the_value(self):
        self.assertEqual(shares(1000, (1, 0), (9, 400), (2, 600)), [0, 400, 600])

    def test_fixed_shares_together_one_more_than_the_value(self):
        self.assertEqual(shares(1000, (1, 0), (9, 400), (2, 601)), [0, 400, 600])
        self.assertEqual(shares(10, (1, 0), (9, 10), (2, 1)), [0, 9, 1])

    def test_fixed_shares_together_far_more_than_the_value(self):
        self.assertEqual(shares(10, (5, 0), (0, 1000000000), (0, 1000000000), (0, 1000000000)), [0, 4, 3, 3])

    def test_all_parts_fixed_less_than_the_value(self):
        self.assertEqual(shares(1000, (9, 1), (1, 3)), [250, 750])

    def test_all_parts_fixed_just_the_value(self):
        self.assertEqual(shares(1000, (9, 100), (1, 900)), [100, 900])

    def test_all_parts_fixed_more_than_the_value(self):
        self.assertEqual(shares(100, (9, 200), (1, 100)), [67, 33])

    def test_all_factors_0(self):
        self.assertEqual(shares(100, (0, 0), (0, 0), (0, 0)), [34, 33, 33])
        self.assertEqual(shares(100, (0, 0), (7, 50), (0, 0), (0, 0)), [17, 50, 17, 16])

    def test_some_factors_0(self):
        self.assertEqual(shares(100, (0, 0), (1, 0), (0, 0)), [0, 100, 0])

    def test_like_rests(self):
        self.assertEqual(shares(101, (1, 0), (1, 0)), [51, 50])
        self.assertEqual(shares(103, (1, 0), (5, 2), (1, 0)), [51, 2, 50])

    def test_value_0(self):
        self.assertEqual(shares(0, (1, 0), (1, 0)), [0, 0])
        self.assertEqual(shares(0, (1, 5), (1, 0)), [0, 0])
        self.assertEqual(shares(0, (1, 5), (1, 9)), [0, 0])

    def test_greatest_numbers(self):
        self.assertEqual(shares(1000000000, (1000000, 0), (1000000, 0), (0, 0)), [500000000, 500000000, 0])
        self.assertEqual(shares(1000000000, (1, 1000000000), (1, 0)), [1000000000, 0])

    def test_changes_nothing(self):
        house = House()
        do(house, FULL_TABLE[:5])
        self.assertEqual(do(house, [cut(10, (1, 0)), fly(1, 0)]), [[0, 10], [0, 10, 0]])
        self.assertEqual(len(house.tickets), 2)

    def test_needs_no_carrier_and_no_room(self):
        self.assertEqual(run([cut(10, (1, 0))]), [[0, 10]])
        self.assertEqual(last(FULL_TABLE + [cut(10, (1, 0))]), [0, 10])

    def test_wrong_rows(self):
        self.refused([], cut(10), -2)
        self.refused([], (4, [10], [1]), -2)
        self.refused([], (4, [10], [1, 0, 1]), -2)
        self.refused([], cut(10, *[(1, 0)] * 9), -2)


class IssueTest(HouseTest):
    def test_answers_the_shares_in_the_order_of_the_parts(self):
        self.assertEqual(last(THREE + [issue(7, 1, 1000, (2, 1, 0), (3, 9, 400), (1, 2, 0))]), [0, 200, 400, 400])

    def test_all_parts_are_there_and_not_flown(self):
        calls = THREE + [issue(7, 1, 90, (1, 1, 0), (2, 1, 0), (3, 1, 0))]
        self.assertEqual(run(calls + [fly(7, 0), fly(7, 1), fly(7, 2), fly(7, 3)])[4:],
                         [[0, 30, 0], [0, 30, 0], [0, 30, 0], [-4]])

    def test_keeps_issuer_value_and_carriers(self):
        house = House()
        do(house, THREE + [issue(999999999, 3, 90, (2, 1, 0), (1, 2, 0))])
        ticket = house.tickets[999999999]
        self.assertEqual((ticket.issuer, ticket.value), (3, 90))
        found = [(part.carrier, part.share, part.kept, part.state, part.claim) for part in ticket.parts]
        self.assertEqual(found, [(2, 30, 0, 0, 0), (1, 60, 0, 0, 0)])

    def test_one_to_eight_parts(self):
        for size in range(1, 9):
            answer = last(THREE + [issue(7, 1, 800, *[(2, 1, 0)] * size)])
            self.assertEqual((answer[0], len(answer), sum(answer)), (0, size + 1, 800))

    def test_a_carrier_may_fly_several_parts(self):
        calls = THREE + [issue(7, 1, 100, (2, 1, 0), (2, 1, 0)), fly(7, 0), fly(7, 1), bill(2, 1)]
        self.assertEqual(last(calls), [0, 1, 50, 2, 50])

    def test_carriers_that_are_not_there(self):
        self.refused(THREE, issue(7, 4, 100, (2, 1, 0)), -3)
        self.refused(THREE, issue(7, 1, 100, (4, 1, 0)), -3)
        self.refused(THREE, issue(7, 1, 100, (2, 1, 0), (3, 1, 0), (4, 1, 0)), -3)
        self.refused([], issue(7, 1, 100, (1, 1, 0)), -3)

    def test_factors_and_fixed_shares_are_not_taken_for_carriers(self):
        self.assertEqual(last(THREE + [issue(7, 1, 600, (2, 600, 500), (3, 675, 0))]), [0, 500, 100])

    def test_there_already(self):
        before = THREE + [issue(7, 1, 100, (2, 1, 0))]
        self.refused(before, issue(7, 1, 100, (2, 1, 0)), -5)
        self.refused(before, issue(7, 2, 5, (3, 1, 0), (1, 1, 0)), -5)
        self.assertEqual(run(before + [issue(7, 1, 9, (2, 1, 0)), fly(7, 0)])[-1], [0, 100, 0])

    def test_a_ticket_that_is_used_up_is_still_there(self):
        self.refused(THREE + [issue(7, 1, 100, (2, 1, 0)), refund(7, 0)], issue(7, 1, 100, (2, 1, 0)), -5)

    def test_forty_are_taken_and_no_more(self):
        self.assertEqual(run(FULL_TABLE)[3:], [[0, 10]] * 40)
        self.refused(FULL_TABLE, issue(41, 1, 10, (2, 1, 0)), -6)

    def test_order_of_refusals(self):
        self.refused(FULL_TABLE, issue(1, 1, 10, (2, 1, 0)), -5)
        self.refused(FULL_TABLE, issue(1, 1, 10, (4, 1, 0)), -3)
        self.refused(FULL_TABLE, issue(41, 4, 10, (2, 1, 0)), -3)
        self.refused(FULL_TABLE, issue(1, 4, 10, (2, 1000001, 0)), -2)

    def test_wrong_rows(self):
        self.refused(THREE, issue(7, 1, 100), -2)
        self.refused(THREE, (3, [7, 1, 100], [2, 1]), -2)
        self.refused(THREE, (3, [7, 1, 100], [2, 1, 0, 3]), -2)
        self.refused(THREE, issue(7, 1, 100, *[(2, 1, 0)] * 9), -2)


class FlyTest(HouseTest):
    ticket = THREE + [issue(7, 1, 1000, (1, 1, 0), (2, 2, 0), (3, 1, 0))]

    def state(self, calls, i):
        house = House()
        do(house, calls)
        part = house.tickets[7].parts[i]
        return (part.state, part.kept, part.claim)

    def test_by_the_issuer(self):
        self.assertEqual(last(self.ticket + [fly(7, 0)]), [0, 250, 0])
        self.assertEqual(self.state(self.ticket + [fly(7, 0)], 0), (1, 0, 0))

    def test_by_another(self):
        self.assertEqual(last(self.ticket + [fly(7, 1)]), [0, 500, 0])
        self.assertEqual(self.state(self.ticket + [fly(7, 1)], 1), (2, 0, 0))

    def test_kept_by_the_charge(self):
        calls = self.ticket + [charge(1, 2, 900), fly(7, 1), fly(7, 2)]
        self.assertEqual(run(calls)[-2:], [[0, 500, 45], [0, 250, 0]])
        self.assertEqual(self.state(calls, 1), (2, 45, 0))

    def test_the_issuer_keeps_nothing_of_its_own_part(self):
        calls = self.ticket + [charge(1, 2, 900), charge(2, 1, 900), charge(1, 3, 900), fly(7, 0)]
        self.assertEqual(last(calls), [0, 250, 0])

    def test_the_rest_of_kept_is_left_out(self):
        def kept(share, bp):
            return last(THREE + [charge(1, 2, bp), issue(7, 1, share, (2, 1, 0)), fly(7, 0)])
        self.assertEqual(kept(9999, 1), [0, 9999, 0])
        self.assertEqual(kept(10000, 1), [0, 10000, 1])
        self.assertEqual(kept(19999, 1), [0, 19999, 1])
        self.assertEqual(kept(3, 5000), [0, 3, 1])
        self.assertEqual(kept(1, 9999), [0, 1, 0])
        self.assertEqual(kept(0, 10000), [0, 0, 0])
        self.assertEqual(kept(1000000000, 10000), [0, 1000000000, 1000000000])
        self.assertEqual(kept(1000000000, 9999), [0, 1000000000, 999900000])

    def test_the_charge_is_the_one_of_now(self):
        calls = self.ticket + [charge(1, 2, 900), charge(1, 2, 100), fly(7, 1), charge(1, 2, 5000), bill(2, 1)]
        self.assertEqual([run(calls)[-3], run(calls)[-1]], [[0, 500, 5], [0, 1, 495]])

    def test_the_charge_may_be_set_after_the_issue(self):
        self.assertEqual(last(self.ticket + [charge(1, 3, 10000), fly(7, 2)]), [0, 250, 250])

    def test_no_such_ticket_or_part(self):
        self.refused(self.ticket, fly(8, 0), -4)
        self.refused(self.ticket, fly(7, 3), -4)
        self.refused(self.ticket, fly(7, 7), -4)
        self.refused([], fly(1, 0), -4)

    def test_the_eighth_part(self):
        calls = THREE + [issue(7, 1, 800, *[(2, 1, 0)] * 8), fly(7, 7)]
        self.assertEqual(last(calls), [0, 100, 0])

    def test_not_twice(self):
        self.refused(self.ticket + [fly(7, 0)], fly(7, 0), -7)
        self.refused(self.ticket + [fly(7, 1)], fly(7, 1), -7)

    def test_not_when_billed_or_refunded(self):
        self.refused(self.ticket + [fly(7, 1), bill(2, 1)], fly(7, 1), -7)
        self.refused(self.ticket + [refund(7, 1)], fly(7, 1), -7)

    def test_other_parts_stay_as_they_are(self):
        self.assertEqual(self.state(self.ticket + [fly(7, 1)], 0), (0, 0, 0))
        self.assertEqual(self.state(self.ticket + [fly(7, 1)], 2), (0, 0, 0))


class RefundTest(HouseTest):
    ticket = FlyTest.ticket

    def test_answers_the_share(self):
        self.assertEqual(run(self.ticket + [refund(7, 0), refund(7, 1)])[-2:], [[0, 250], [0, 500]])

    def test_is_refunded_afterwards(self):
        house = House()
        do(house, self.ticket + [charge(1, 2, 900), refund(7, 1)])
        self.assertEqual([(part.state, part.kept) for part in house.tickets[7].parts], [(0, 0), (4, 0), (0, 0)])

    def test_a_share_of_0(self):
        self.assertEqual(last(THREE + [issue(7, 1, 0, (2, 1, 0)), refund(7, 0)]), [0, 0])

    def test_is_not_billed(self):
        self.assertEqual(last(self.ticket + [refund(7, 1), bill(2, 1)]), [0])

    def test_no_such_ticket_or_part(self):
        self.refused(self.ticket, refund(8, 0), -4)
        self.refused(self.ticket, refund(7, 3), -4)
        self.refused(self.ticket, refund(7, 7), -4)
        self.refused([], refund(1, 0), -4)

    def test_not_twice_and_not_when_flown_or_billed(self):
        self.refused(self.ticket + [refund(7, 1)], refund(7, 1), -7)
        self.refused(self.ticket + [fly(7, 0)], refund(7, 0), -7)
        self.refused(self.ticket + [fly(7, 1)], refund(7, 1), -7)
        self.refused(self.ticket + [fly(7, 1), bill(2, 1)], refund(7, 1), -7)


if __name__ == "__main__":
    unittest.main()
