"""Promises 7 to 10: bill, reject, effect, owed."""

import unittest

from tests.helper import (HouseTest, bill, carrier, charge, claim, clear, effect, fly, issue, last, owed, owing, part,
                          rate, refund, reject, run, suspend)

THREE = [carrier(1), carrier(2), carrier(3)]


def flown_parts(count, first=1):
    """Tickets of 8 parts of 10 each, issued by 1, with as many parts flown by 2."""
    calls = []
    for t in range(first, first + (count + 7) // 8):
        calls.append(issue(t, 1, 80, *[(2, 1, 0)] * 8))
    for at in range(count):
        calls.append(fly(first + at // 8, at % 8))
    return calls


def claim_rows(calls, count):
    """What the claims 1 to count are after the calls."""
    return run(calls + [claim(number) for number in range(1, count + 1)])[-count:]


def one_claim(amount):
    """Claim 1, of carrier 2 from carrier 1."""
    return THREE + [issue(7, 1, amount, (2, 1, 0)), fly(7, 0), bill(2, 1)]


class BillTest(HouseTest):
    def billed(self, value, num, den, bp=0):
        """The amount of a claim for one part, in a currency with this rate."""
        calls = [carrier(1, 5), carrier(2), rate(5, num, den), charge(1, 2, bp)]
        answer = last(calls + [issue(7, 1, value, (2, 1, 0)), fly(7, 0), bill(2, 1)])
        self.assertEqual(answer[:2], [0, 1])
        self.assertEqual(len(answer), 3)
        return answer[2]

    def test_nothing_to_bill(self):
        self.assertEqual(last(THREE + [bill(2, 1)]), [0])

    def test_share_less_kept_in_the_clearing_s_currency(self):
        calls = THREE + [charge(1, 2, 900), issue(7, 1, 1000, (2, 1, 0)), fly(7, 0), bill(2, 1)]
        self.assertEqual(last(calls), [0, 1, 910])

    def test_the_claim_and_the_part_afterwards(self):
        self.assertEqual(run(one_claim(1000) + [claim(1), part(7, 0)])[-2:],
                         [[0, 2, 1, 1000, 0, 0, 0, 0, 0], [0, 2, 1000, 0, 3, 1]])

    def test_the_month_is_that_of_the_house(self):
        self.assertEqual(last([clear()] * 5 + one_claim(1000) + [claim(1)]), [0, 2, 1, 1000, 5, 0, 0, 0, 0])

    def test_suspended_carriers_may_bill_and_be_billed(self):
        for c in (1, 2):
            self.assertEqual(last(THREE + [suspend(c, 1)] + one_claim(1000)[3:]), [0, 1, 1000])

    def test_ids_go_on_after_a_clearing(self):
        calls = one_claim(1000) + [clear()] + owing((1, 3, 20))
        self.assertEqual(last(calls), [0, 2, 20])
        self.assertEqual(last(calls + [bill(2, 1)]), [0])

    def test_settled_claims_count_among_the_200(self):
        before = THREE + flown_parts(200) + [bill(2, 1), clear()]
        self.refused(before + [issue(100, 1, 5, (3, 1, 0)), fly(100, 0)], bill(3, 1), -6)
        self.refused(before, reject(1, 1), -6)

    def test_in_the_order_of_issue_and_then_of_the_parts(self):
        calls = THREE + [issue(9, 1, 100, (2, 1, 0), (2, 3, 0)), issue(4, 1, 10, (2, 1, 0)), issue(5, 1, 7, (2, 1, 0))]
        calls += [fly(5, 0), fly(4, 0), fly(9, 1), fly(9, 0), bill(2, 1)]
        self.assertEqual(last(calls), [0, 1, 25, 2, 75, 3, 10, 4, 7])

    def test_only_parts_flown_by_b_of_tickets_issued_by_a(self):
        calls = THREE + [issue(1, 1, 600, (1, 1, 0), (2, 1, 0), (3, 1, 0), (2, 1, 0), (2, 1, 0), (2, 1, 0)),
                         issue(2, 3, 50, (2, 1, 0)), issue(3, 2, 60, (1, 1, 0), (2, 1, 0))]
        calls += [fly(1, 0), fly(1, 1), fly(1, 2), refund(1, 3), fly(1, 5), fly(2, 0), fly(3, 0), fly(3, 1)]
        self.assertEqual(run(calls + [bill(2, 1), bill(3, 1), bill(2, 3), bill(1, 2), bill(1, 3), bill(3, 2)])[-6:],
                         [[0, 1, 100, 2, 100], [0, 3, 100], [0, 4, 50], [0, 5, 30], [0], [0]])

    def test_not_twice(self):
        self.assertEqual(run(one_claim(1000) + [bill(2, 1)])[-2:], [[0, 1, 1000], [0]])

    def test_what_is_flown_later_is_billed_later(self):
        calls = THREE + [issue(7, 1, 100, (2, 1, 0), (2, 1, 0)), fly(7, 1), bill(2, 1), fly(7, 0), bill(2, 1)]
        self.assertEqual([run(calls)[5], run(calls)[7]], [[0, 1, 50], [0, 2, 50]])

    def test_an_amount_of_0(self):
        self.assertEqual(last(one_claim(0)), [0, 1, 0])
        self.assertEqual(self.billed(1000, 1, 1, 10000), 0)
        self.assertEqual(self.billed(1, 1, 3), 0)
        self.assertEqual(last(one_claim(0) + [part(7, 0)]), [0, 2, 0, 0, 3, 1])

    def test_halves_are_rounded_up(self):
        self.assertEqual(self.billed(1, 1, 2), 1)
        self.assertEqual(self.billed(3, 1, 2), 2)
        self.assertEqual(self.billed(5, 1, 2), 3)
        self.assertEqual(self.billed(5, 1, 10), 1)
        self.assertEqual(self.billed(4, 1, 10), 0)

    def test_to_the_nearest(self):
        self.assertEqual(self.billed(1, 1, 3), 0)
        self.assertEqual(self.billed(2, 1, 3), 1)
        self.assertEqual(self.billed(4, 1, 3), 1)
        self.assertEqual(self.billed(100, 7, 9), 78)

    def test_greatest_and_least_rates(self):
        self.assertEqual(self.billed(1000000000, 1000000, 1), 1000000000000000)
        self.assertEqual(self.billed(1000000000, 1, 1000000), 1000)
        self.assertEqual(self.billed(499999, 1, 1000000), 0)
        self.assertEqual(self.billed(500000, 1, 1000000), 1)
        self.assertEqual(self.billed(1000000000, 999999, 1000000), 999999000)

    def test_kept_is_taken_off_before_the_rate(self):
        self.assertEqual(self.billed(99, 10, 1, 1000), 900)

    def test_each_part_is_rounded_by_itself(self):
        calls = [carrier(1, 5), carrier(2), rate(5, 1, 2), issue(7, 1, 3, (2, 1, 0), (2, 1, 0), (2, 1, 0))]
        self.assertEqual(last(calls + [fly(7, 0), fly(7, 1), fly(7, 2), bill(2, 1)]), [0, 1, 1, 2, 1, 3, 1])

    def test_the_rate_is_the_one_of_now(self):
        calls = [carrier(1, 5), carrier(2), rate(5, 2, 1), issue(7, 1, 100, (2, 1, 0), (2, 1, 0)), fly(7, 0)]
        calls += [rate(5, 3, 1), bill(2, 1), rate(5, 4, 1), effect(1), fly(7, 1), bill(2, 1)]
        found = run(calls)
        self.assertEqual([found[6], found[8], found[10]], [[0, 1, 150], [0, 150], [0, 2, 200]])

    def test_b_s_currency_does_not_matter(self):
        calls = [carrier(1), carrier(2, 5), issue(7, 1, 100, (2, 1, 0)), fly(7, 0), bill(2, 1)]
        self.assertEqual(last(calls), [0, 1, 100])

    def test_carriers_that_are_not_there(self):
        self.refused(THREE, bill(4, 1), -3)
        self.refused(THREE, bill(1, 4), -3)
        self.refused(THREE, bill(4, 5), -3)

    def test_a_carrier_from_itself(self):
        self.refused(THREE + [issue(7, 1, 100, (1, 1, 0)), fly(7, 0)], bill(1, 1), -8)

    def test_no_rate(self):
        before = [carrier(1, 5), carrier(2)]
        self.refused(before, bill(2, 1), -7)
        self.refused(before + [issue(7, 1, 100, (2, 1, 0)), fly(7, 0)], bill(2, 1), -7)
        self.assertEqual(last(before + [rate(5, 1, 1), bill(2, 1)]), [0])

    def test_all_currencies(self):
        for currency in range(1, 8):
            before = [carrier(1, currency), carrier(2), issue(7, 1, 10, (2, 1, 0)), fly(7, 0)]
            self.refused(before, bill(2, 1), -7)
            self.assertEqual(last(before + [rate(currency, 3, 1), bill(2, 1)]), [0, 1, 30])

    def test_order_of_refusals(self):
        before = [carrier(1, 5), carrier(2)]
        self.refused(before, bill(4, 4), -3)
        self.refused(before, bill(4, 1), -3)
        self.refused(before, bill(1, 1), -8)
        self.refused(before, bill(676, 676), -2)

    def test_200_claims_are_taken_at_once(self):
        answer = last(THREE + flown_parts(200) + [bill(2, 1)])
        self.assertEqual(answer, [0] + [number for at in range(1, 201) for number in (at, 10)])

    def test_201_are_refused_whole(self):
        self.refused(THREE + flown_parts(201), bill(2, 1), -6)

    def test_those_that_are_there_count(self):
        full = THREE + flown_parts(200) + [bill(2, 1)]
        self.refused(full + [issue(100, 1, 5, (3, 1, 0)), fly(100, 0)], bill(3, 1), -6)
        nearly = THREE + flown_parts(198) + [bill(2, 1), issue(100, 1, 6, (3, 1, 0), (3, 1, 0), (3, 1, 0))]
        self.assertEqual(last(nearly + [fly(100, 0), fly(100, 1), bill(3, 1)]), [0, 199, 2, 200, 2])
        self.refused(nearly + [fly(100, 0), fly(100, 1), fly(100, 2)], bill(3, 1), -6)

    def test_rejections_count_too(self):
        before = THREE + flown_parts(199) + [bill(2, 1), reject(1, 1)]
        self.assertEqual(last(before), [0, 200])
        self.refused(before + [issue(100, 1, 5, (3, 1, 0)), fly(100, 0)], bill(3, 1), -6)

    def test_nothing_to_bill_is_no_refusal_at_200(self):
        full = THREE + flown_parts(200) + [bill(2, 1)]
        self.assertEqual(run(full + [bill(2, 1), bill(3, 1)])[-2:], [[0], [0]])

    def test_no_rate_comes_before_full(self):
        before = THREE + [carrier(4, 5)] + flown_parts(200) + [bill(2, 1), issue(100, 4, 5, (3, 1, 0)), fly(100, 0)]
        self.refused(before, bill(3, 4), -7)
        self.refused(before, bill(4, 4), -8)
        self.refused(before, bill(9, 4), -3)
        self.refused(before + [rate(5, 1, 1)], bill(3, 4), -6)


class RejectTest(HouseTest):
    chain = one_claim(100) + [reject(1, 60), reject(2, 40), reject(3, 10)]

    def aged(self, months):
        """Claim 1 of month 0, settled by the first clearing, so many months later."""
        return one_claim(100) + [clear()] * months

    def aged_unsettled(self, months):
        return one_claim(100) + [suspend(1, 1)] + [clear()] * months

    def test_answers_the_new_id(self):
        self.assertEqual(run(self.chain)[-3:], [[0, 2], [0, 3], [0, 4]])

    def test_the_claims_afterwards(self):
        self.assertEqual(claim_rows(self.chain, 4), [
            [0, 2, 1, 100, 0, 0, 0, 2, 0],
            [0, 1, 2, 60, 0, 1, 1, 3, 0],
            [0, 2, 1, 40, 0, 2, 2, 4, 0],
            [0, 1, 2, 10, 0, 3, 3, 0, 0],
        ])

    def test_the_rejected_one_s_id_is_no_count(self):
        calls = THREE + flown_parts(3) + [bill(2, 1), reject(3, 5), reject(1, 6), reject(4, 2)]
        self.assertEqual(run(calls)[-3:], [[0, 4], [0, 5], [0, 6]])
        self.assertEqual([row[6:8] for row in claim_rows(calls, 6)], [[0, 5], [0, 0], [0, 4], [3, 6], [1, 0], [4, 0]])

    def test_no_such_claim(self):
        self.refused(THREE, reject(1, 1), -4)
        self.refused(one_claim(100), reject(2, 1), -4)
        self.refused(one_claim(100), reject(999, 1), -4)

    def test_not_twice(self):
        self.refused(one_claim(100) + [reject(1, 10)], reject(1, 10), -7)
        self.refused(self.chain, reject(2, 1), -7)

    def test_depth_3_is_the_last(self):
        self.refused(self.chain, reject(4, 1), -7)

    def test_months(self):
        for before in (self.aged, self.aged_unsettled):
            for months in (0, 1, 2):
                self.assertEqual(last(before(months) + [reject(1, 100)]), [0, 2])
            for months in (3, 4, 100):
                self.refused(before(months), reject(1, 100), -7)

    def test_months_count_from_the_claim_s_own(self):
        later = [clear()] * 10 + one_claim(100)
        self.assertEqual(last(later + [clear()] * 2 + [reject(1, 100)]), [0, 2])
        self.refused(later + [clear()] * 3, reject(1, 100), -7)

    def test_the_new_claim_is_of_the_house_s_month(self):
        calls = self.aged(2) + [reject(1, 50)] + [clear()] * 2 + [reject(2, 50)]
        self.assertEqual([row[4] for row in claim_rows(calls, 3)], [0, 2, 4])
        self.assertEqual(last(calls + [clear()] * 2 + [reject(3, 50)]), [0, 4])
        self.refused(calls + [clear()] * 3, reject(3, 50), -7)

    def test_just_the_amount_and_more(self):
        self.assertEqual(last(one_claim(100) + [reject(1, 100)]), [0, 2])
        self.assertEqual(last(one_claim(100) + [reject(1, 1)]), [0, 2])
        self.refused(one_claim(100), reject(1, 101), -8)
        self.refused(one_claim(100), reject(1, 10000000000000000), -8)

    def test_a_claim_of_0_can_not_be_rejected(self):
        self.refused(one_claim(0), reject(1, 1), -8)

    def test_a_rejection_is_held_to_its_own_amount(self):
        self.refused(one_claim(100) + [reject(1, 60)], reject(2, 61), -8)

    def test_whether_it_is_settled_does_not_matter(self):
        self.assertEqual(claim_rows(self.aged(1) + [reject(1, 70)], 2),
                         [[0, 2, 1, 100, 0, 0, 0, 2, 1], [0, 1, 2, 70, 1, 1, 1, 0, 0]])
        self.assertEqual(claim_rows(self.aged_unsettled(1) + [reject(1, 70)], 2),
                         [[0, 2, 1, 100, 0, 0, 0, 2, 0], [0, 1, 2, 70, 1, 1, 1, 0, 0]])

    def test_200_claims(self):
        self.assertEqual(last(THREE + flown_parts(199) + [bill(2, 1), reject(1, 1)]), [0, 200])
        self.refused(THREE + flown_parts(200) + [bill(2, 1)], reject(1, 1), -6)

    def test_order_of_refusals(self):
        full = THREE + flown_parts(199) + [bill(2, 1), reject(1, 5)]
        self.refused(full, reject(201, 10000000000000000), -4)
        self.refused(full, reject(1, 11), -7)
        self.refused(full, reject(2, 11), -8)
        self.refused(full, reject(2, 5), -6)
        self.refused(full, reject(1000, 1), -2)
        self.refused(self.chain, reject(4, 11), -7)
        self.refused(self.aged(3), reject(1, 101), -7)
        self.refused(self.aged(3), reject(2, 101), -4)
        self.refused(THREE + flown_parts(200) + [bill(2, 1)] + [clear()] * 3, reject(1, 1), -7)


class EffectTest(HouseTest):
    def test_of_a_claim_that_is_not_rejected(self):
        self.assertEqual(last(one_claim(100) + [effect(1)]), [0, 100])
        self.assertEqual(last(one_claim(0) + [effect(1)]), [0, 0])

    def test_less_the_effect_of_the_rejection(self):
        calls = one_claim(100) + [reject(1, 60), effect(1), effect(2)]
        self.assertEqual(run(calls)[-2:], [[0, 40], [0, 60]])

    def test_down_to_depth_3(self):
        calls = RejectTest.chain + [effect(1), effect(2), effect(3), effect(4)]
        self.assertEqual(run(calls)[-4:], [[0, 70], [0, 30], [0, 30], [0, 10]])

    def test_wholly_rejected(self):
        self.assertEqual(last(one_claim(100) + [reject(1, 100), effect(1)]), [0, 0])

    def test_of_one_among_several(self):
        calls = THREE + flown_parts(3) + [bill(2, 1), reject(2, 4), effect(1), effect(2), effect(3), effect(4)]
        self.assertEqual(run(calls)[-4:], [[0, 10], [0, 6], [0, 10], [0, 4]])

    def test_settled_or_not_does_not_matter(self):
        self.assertEqual(last(one_claim(100) + [clear(), reject(1, 60), effect(1)]), [0, 40])
        self.assertEqual(last(one_claim(100) + [clear(), reject(1, 60), clear(), effect(1)]), [0, 40])
        self.assertEqual(last(one_claim(100) + [suspend(2, 1), clear(), reject(1, 60), effect(1)]), [0, 40])

    def test_no_such_claim(self):
        self.refused([], effect(1), -4)
        self.refused(one_claim(100), effect(2), -4)
        self.refused(one_claim(100), effect(999), -4)


class OwedTest(HouseTest):
    def test_nothing(self):
        self.assertEqual(last(THREE + [owed(1, 2)]), [0, 0, 0])

    def test_first_what_b_gets_then_what_a_gets(self):
        calls = one_claim(100) + [issue(8, 2, 30, (1, 1, 0)), fly(8, 0), bill(1, 2)]
        self.assertEqual(run(calls + [owed(1, 2), owed(2, 1)])[-2:], [[0, 100, 30], [0, 30, 100]])

    def test_several_claims_together(self):
        self.assertEqual(last(THREE + flown_parts(5) + [bill(2, 1), owed(1, 2)]), [0, 50, 0])

    def test_a_rejection_counts_the_other_way_and_takes_nothing_off(self):
        self.assertEqual(last(one_claim(100) + [reject(1, 60), owed(1, 2)]), [0, 100, 60])
        self.assertEqual(last(RejectTest.chain + [owed(1, 2)]), [0, 140, 70])

    def test_other_carriers_claims_do_not_count(self):
        calls = one_claim(100) + [issue(8, 1, 30, (3, 1, 0)), fly(8, 0), bill(3, 1)]
        calls += [issue(9, 3, 20, (2, 1, 0)), fly(9, 0), bill(2, 3)]
        self.assertEqual(run(calls + [owed(1, 2), owed(1, 3), owed(2, 3)])[-3:], [[0, 100, 0], [0, 30, 0], [0, 0, 20]])

    def test_what_is_not_billed_does_not_count(self):
        self.assertEqual(last(THREE + flown_parts(3) + [owed(1, 2)]), [0, 0, 0])

    def test_settled_claims_do_not_count(self):
        calls = THREE + flown_parts(3) + [bill(2, 1), reject(1, 4), owed(1, 2), clear(), owed(1, 2)]
        self.assertEqual([run(calls)[-3], run(calls)[-1]], [[0, 30, 4], [0, 0, 0]])
        self.assertEqual(last(calls + [reject(2, 3), owed(1, 2)]), [0, 0, 3])
        self.assertEqual(last(calls + [reject(2, 3)] + flown_parts(2, 10) + [bill(2, 1), owed(1, 2)]), [0, 20, 3])

    def test_suspended_carriers_claims_count(self):
        for c in (1, 2):
            calls = one_claim(100) + [suspend(c, 1), owed(1, 2), owed(2, 1)]
            self.assertEqual(run(calls)[-2:], [[0, 100, 0], [0, 0, 100]])
            self.assertEqual(last(calls + [clear(), owed(1, 2)]), [0, 100, 0])
            self.assertEqual(last(calls + [clear(), suspend(c, 0), clear(), owed(1, 2)]), [0, 0, 0])

    def test_a_carrier_and_itself(self):
        self.assertEqual(last(one_claim(100) + [owed(1, 1)]), [0, 0, 0])

    def test_carriers_that_are_not_there(self):
        self.refused(THREE, owed(1, 4), -3)
        self.refused(THREE, owed(4, 1), -3)
        self.refused(THREE, owed(4, 4), -3)


if __name__ == "__main__":
    unittest.main()
