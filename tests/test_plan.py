"""Promises 11 and 12: nets and plan, and how carriers are parted into groups."""

import itertools
import unittest

from carriermoney.planning import part_into_groups, plan_payments
from tests.helper import (HouseTest, bill, carrier, charge, check, clear, fly, grouped, groups_by_the_words, issue,
                          last, nets, owing, plan, plan_by_the_words, rate, reject, run, suspend, with_nets)

THREE = [carrier(1), carrier(2), carrier(3)]

# Three groups can be had only with 1 in a group of four, though 1, 5 and 8 are a group of three.
FOUR_IN_THE_FIRST = {1: 1, 2: 100, 3: 200, 4: -301, 5: 2, 6: 1000, 7: -1002, 8: -3, 9: 5003, 10: -5000}


class NetsTest(HouseTest):
    def test_no_carriers(self):
        self.assertEqual(run([nets()]), [[0]])

    def test_carriers_without_claims(self):
        self.assertEqual(last([carrier(7), carrier(0), carrier(675), nets()]), [0, 0, 0, 7, 0, 675, 0])

    def test_claims_to_it_less_claims_from_it(self):
        calls = THREE + owing((1, 2, 100), (1, 3, 30), (3, 2, 5))
        self.assertEqual(last(calls + [nets()]), [0, 1, -130, 2, 105, 3, 25])

    def test_by_rising_numbers_and_not_as_they_came(self):
        calls = [carrier(100), carrier(9), carrier(10), carrier(2)] + owing((9, 100, 6), (2, 10, 4))
        self.assertEqual(last(calls + [nets()]), [0, 2, -4, 9, -6, 10, 4, 100, 6])

    def test_what_is_not_billed_does_not_count(self):
        self.assertEqual(last(THREE + [issue(1, 1, 50, (2, 1, 0)), fly(1, 0), nets()]), [0, 1, 0, 2, 0, 3, 0])

    def test_a_rejection_counts_the_other_way(self):
        self.assertEqual(last(THREE + owing((1, 2, 100)) + [reject(1, 30), nets()]), [0, 1, -70, 2, 70, 3, 0])

    def test_in_the_clearing_s_currency_and_less_what_is_kept(self):
        calls = [carrier(1, 5), carrier(2, 6), rate(5, 3, 2), rate(6, 9, 1), charge(1, 2, 1000)]
        self.assertEqual(last(calls + owing((1, 2, 99)) + [nets()]), [0, 1, -135, 2, 135])

    def test_claims_of_0(self):
        self.assertEqual(last(THREE + owing((1, 2, 0)) + [nets()]), [0, 1, 0, 2, 0, 3, 0])

    def test_settled_claims_do_not_count(self):
        calls = THREE + owing((1, 2, 100)) + [clear()]
        self.assertEqual(last(calls + [nets()]), [0, 1, 0, 2, 0, 3, 0])
        self.assertEqual(last(calls + owing((3, 1, 7), first=2) + [nets()]), [0, 1, 7, 2, 0, 3, -7])

    def test_suspended_carriers_on_either_side(self):
        calls = THREE + owing((1, 2, 100), (3, 1, 40), (2, 3, 7))
        self.assertEqual(last(calls + [nets()]), [0, 1, -60, 2, 93, 3, -33])
        self.assertEqual(last(calls + [suspend(1, 1), nets()]), [0, 1, 0, 2, -7, 3, 7])
        self.assertEqual(last(calls + [suspend(2, 1), nets()]), [0, 1, 40, 2, 0, 3, -40])
        self.assertEqual(last(calls + [suspend(3, 1), nets()]), [0, 1, -100, 2, 100, 3, 0])
        self.assertEqual(last(calls + [suspend(3, 1), suspend(2, 1), nets()]), [0, 1, 0, 2, 0, 3, 0])
        self.assertEqual(last(calls + [suspend(1, 1), suspend(1, 0), nets()]), [0, 1, -60, 2, 93, 3, -33])

    def test_great_sums(self):
        calls = [carrier(1, 5), carrier(2), rate(5, 1000000, 1)]
        calls += [issue(t, 1, 1000000000, (2, 1, 0)) for t in range(1, 41)] + [fly(t, 0) for t in range(1, 41)]
        self.assertEqual(last(calls + [bill(2, 1), nets()]), [0, 1, -40000000000000000, 2, 40000000000000000])

    def test_changes_nothing(self):
        calls = THREE + owing((1, 2, 100))
        self.assertEqual(self.unchanged(calls, nets()), [0, 1, -100, 2, 100, 3, 0])


class PlanTest(HouseTest):
    def planned(self, sums):
        """The payments for these net sums; looks that they are those that all partings gone through give."""
        calls = with_nets(sums)
        found = run(calls + [nets(), plan()])
        self.assertEqual(dict(grouped(found[-2], 2)), sums)
        payments = grouped(found[-1], 3)
        self.assertEqual(payments, plan_by_the_words(sums))
        self.assertEqual(last(calls + [check(*payments)]), [0, 1])
        return payments

    def test_no_carriers(self):
        self.assertEqual(run([plan()]), [[0]])

    def test_carriers_without_claims(self):
        self.assertEqual(last(THREE + [plan()]), [0])

    def test_claims_of_0(self):
        self.assertEqual(last(THREE + owing((1, 2, 0)) + [plan()]), [0])

    def test_one_payment(self):
        self.assertEqual(self.planned({1: -100, 2: 100}), [(1, 2, 100)])
        self.assertEqual(self.planned({1: 100, 2: -100}), [(2, 1, 100)])

    def test_net_sums_of_0_are_left_out(self):
        self.assertEqual(self.planned({0: 0, 1: -5, 2: 0, 3: 5, 675: 0}), [(1, 3, 5)])

    def test_a_ring_of_claims_needs_no_payment(self):
        self.assertEqual(last(THREE + owing((1, 2, 9), (2, 3, 9), (3, 1, 9)) + [plan()]), [0])

    def test_claims_are_set_off(self):
        self.assertEqual(last(THREE + owing((1, 2, 9), (2, 3, 9), (3, 1, 4)) + [plan()]), [0, 1, 3, 5])

    def test_in_a_group_the_smallest_payer_pays_the_smallest_getter(self):
        self.assertEqual(self.planned({1: 5, 2: -3, 3: 4, 4: -6}), [(2, 1, 3), (4, 1, 2), (4, 3, 4)])
        self.assertEqual(self.planned({1: -6, 2: 4, 3: -3, 4: 5}), [(1, 2, 4), (1, 4, 2), (3, 4, 3)])
        self.assertEqual(self.planned({1: -9, 2: 4, 3: 3, 4: 2}), [(1, 2, 4), (1, 3, 3), (1, 4, 2)])

    def test_groups_come_by_their_smallest_carrier_and_not_by_size(self):
        self.assertEqual(self.planned({1: 5, 2: 7, 3: -7, 4: -2, 5: -3}), [(4, 1, 2), (5, 1, 3), (3, 2, 7)])

    def test_a_payment_is_not_drawn_into_another_group(self):
        self.assertEqual(self.planned({1: 3, 2: 5, 3: -5, 4: -3}), [(4, 1, 3), (3, 2, 5)])

    def test_as_many_groups_as_can_be(self):
        self.assertEqual(self.planned({1: 4, 2: 6, 3: -5, 4: -4, 5: -1}), [(4, 1, 4), (3, 2, 5), (5, 2, 1)])

    def test_more_groups_come_before_fewer_carriers_in_the_first(self):
        self.assertEqual(part_into_groups(FOUR_IN_THE_FIRST), [[1, 2, 3, 4], [5, 6, 7], [8, 9, 10]])
        self.assertEqual(self.planned(FOUR_IN_THE_FIRST), [
            (4, 1, 1), (4, 2, 100), (4, 3, 200), (7, 5, 2), (7, 6, 1000), (8, 9, 3), (10, 9, 5000)])

    def test_the_fewest_carriers_in_the_first_group(self):
        self.assertEqual(self.planned({1: 3, 2: -1, 3: -2, 4: -3, 5: 3}), [(4, 1, 3), (2, 5, 1), (3, 5, 2)])

    def test_the_smaller_carrier_where_they_first_differ(self):
        self.assertEqual(self.planned({1: 4, 2: -4, 3: -4, 4: 4}), [(2, 1, 4), (3, 4, 4)])
        self.assertEqual(self.planned({1: 5, 2: -2, 3: -2, 4: -3, 5: -3, 6: 5}),
                         [(2, 1, 2), (4, 1, 3), (3, 6, 2), (5, 6, 3)])

    def test_the_second_place_comes_before_the_last(self):
        sums = {1: 9, 2: -1, 3: -3, 4: -6, 5: -8, 6: 9}
        self.assertEqual(part_into_groups(sums), [[1, 2, 5], [3, 4, 6]])
        self.assertEqual(self.planned(sums), [(2, 1, 1), (5, 1, 8), (3, 6, 3), (4, 6, 6)])

    def test_the_rest_is_parted_in_the_same_way(self):
        self.assertEqual(self.planned({1: 70, 2: -70, 3: 3, 4: -1, 5: -2, 6: -3, 7: 3}),
                         [(2, 1, 70), (6, 3, 3), (4, 7, 1), (5, 7, 2)])
        self.assertEqual(self.planned({1: 70, 9: -70, 3: 4, 4: -4, 5: -4, 6: 4}), [(9, 1, 70), (4, 3, 4), (5, 6, 4)])

    def test_carriers_are_ordered_as_numbers_and_not_as_they_came(self):
        self.assertEqual(self.planned({100: -4, 9: 4, 10: -4, 2: 4}), [(10, 2, 4), (100, 9, 4)])
        self.assertEqual(self.planned({675: 5, 30: -2, 4: -2, 200: -3, 21: -3, 0: 5}),
                         [(4, 0, 2), (21, 0, 3), (30, 675, 2), (200, 675, 3)])

    def test_ten_carriers(self):
        self.assertEqual(self.planned({c: 9 if c == 0 else -1 for c in range(10)}), [(c, 0, 1) for c in range(1, 10)])
        self.assertEqual(self.planned({c: 1 if c < 5 else -1 for c in range(10)}), [(c + 5, c, 1) for c in range(5)])
        self.assertEqual(self.planned({c: c + 1 if c < 5 else c - 10 for c in range(10)}),
                         [(9 - c, c, c + 1) for c in range(5)])
        self.planned({0: -7, 1: 4, 2: 3, 3: 9, 4: -5, 5: -4, 6: 2, 7: 8, 8: -6, 9: -4})

    def test_net_sums_that_can_be_parted_in_no_way_but_one(self):
        sums = {c: 3 ** c for c in range(9)}
        sums[9] = -sum(sums.values())
        self.assertEqual(self.planned(sums), [(9, c, 3 ** c) for c in range(9)])

    def test_great_sums(self):
        calls = [carrier(c, 5) for c in range(4)] + [rate(5, 1000000, 1)]
        calls += owing((0, 1, 1000000000), (2, 3, 999999999))
        self.assertEqual(last(calls + [plan()]), [0, 0, 1, 1000000000000000, 2, 3, 999999999000000])

    def test_suspended_carriers_are_left_out(self):
        calls = THREE + owing((1, 2, 100), (3, 1, 40), (2, 3, 7))
        self.assertEqual(last(calls + [suspend(1, 1), plan()]), [0, 2, 3, 7])
        self.assertEqual(last(calls + [suspend(2, 1), plan()]), [0, 3, 1, 40])
        self.assertEqual(last(calls + [suspend(3, 1), suspend(1, 1), plan()]), [0])
        self.assertEqual(last(calls + [suspend(1, 1), suspend(1, 0), plan()]), [0, 1, 2, 60, 3, 2, 33])

    def test_changes_nothing(self):
        calls = with_nets(FOUR_IN_THE_FIRST)
        self.assertEqual(len(self.unchanged(calls, plan())), 22)
        self.assertEqual(run(calls + [plan(), plan()])[-2:], [last(calls + [plan()])] * 2)

    def test_all_small_net_sums_of_six_carriers(self):
        for first in itertools.product((-3, -1, 1, 2), repeat=5):
            sums = dict(zip((3, 5, 8, 13, 21, 34), first + (-sum(first),)))
            self.assertEqual(plan_payments(sums), plan_by_the_words(sums))

    def test_many_net_sums_of_ten_carriers(self):
        seed = 1
        for _ in range(60):
            sums = {}
            for c in range(9):
                seed = seed * 48271 % 2147483647
                sums[c * 7 % 10] = seed // 1000 % 13 - 6
            sums[3] = -sum(sums.values())
            self.assertEqual(len(sums), 10)
            self.assertEqual(part_into_groups(sums), groups_by_the_words(sums))
            self.assertEqual(plan_payments(sums), plan_by_the_words(sums))


if __name__ == "__main__":
    unittest.main()
