"""Promises 16 to 19: books, part, claim, unbilled."""

import unittest

from tests.helper import (HouseTest, bill, books, carrier, charge, claim, clear, fly, issue, last, owing, part, rate,
                          refund, reject, run, suspend, unbilled)

THREE = [carrier(1), carrier(2), carrier(3)]

# Shares 100, 200, 300, 400, 500, 600: flown by the issuer, by 2, by 3, refunded, and two that stay open.
SIX = THREE + [charge(1, 2, 1000), charge(1, 3, 333),
               issue(7, 1, 2100, (1, 1, 0), (2, 2, 0), (3, 3, 0), (2, 4, 0), (1, 5, 0), (3, 6, 0))]
SIX_FLOWN = SIX + [fly(7, 0), fly(7, 1), fly(7, 2), refund(7, 3)]


class BooksTest(HouseTest):
    def test_no_tickets(self):
        self.assertEqual(last(THREE + [books(1)]), [0, 0, 0, 0, 0, 0, 0])

    def test_all_parts_are_not_flown_at_first(self):
        self.assertEqual(last(SIX + [books(1)]), [0, 2100, 2100, 0, 0, 0, 0])

    def test_each_sum(self):
        self.assertEqual(last(SIX_FLOWN + [books(1)]), [0, 2100, 1100, 100, 29, 471, 400])

    def test_billed_or_not_does_not_matter(self):
        self.assertEqual(last(SIX_FLOWN + [bill(2, 1), books(1)]), [0, 2100, 1100, 100, 29, 471, 400])
        calls = SIX_FLOWN + [bill(2, 1), bill(3, 1), reject(1, 100), clear(), books(1)]
        self.assertEqual(last(calls), [0, 2100, 1100, 100, 29, 471, 400])

    def test_a_refunded_part_of_the_issuer_s_own(self):
        self.assertEqual(last(SIX_FLOWN + [refund(7, 4), books(1)]), [0, 2100, 600, 100, 29, 471, 900])

    def test_a_part_of_the_issuer_s_own_is_not_flown_by_others(self):
        self.assertEqual(last(SIX_FLOWN + [fly(7, 4), fly(7, 5), books(1)]), [0, 2100, 0, 600, 48, 1052, 400])

    def test_several_tickets_together(self):
        calls = SIX_FLOWN + [issue(3, 1, 90, (2, 1, 0), (1, 2, 0)), issue(9, 1, 8, (3, 1, 0)), fly(3, 0), refund(9, 0)]
        self.assertEqual(last(calls + [books(1)]), [0, 2198, 1160, 100, 32, 498, 408])

    def test_only_tickets_issued_by_a(self):
        calls = SIX_FLOWN + [issue(3, 2, 90, (1, 1, 0), (2, 2, 0)), fly(3, 0), fly(3, 1)]
        self.assertEqual(run(calls + [books(1), books(2), books(3)])[-3:],
                         [[0, 2100, 1100, 100, 29, 471, 400], [0, 90, 0, 60, 0, 30, 0], [0, 0, 0, 0, 0, 0, 0]])

    def test_in_a_s_currency(self):
        calls = [carrier(1, 5), carrier(2, 6), rate(5, 3, 1), rate(6, 7, 1), charge(1, 2, 5000)]
        calls += [issue(7, 1, 100, (2, 1, 0)), fly(7, 0), bill(2, 1), books(1)]
        self.assertEqual(run(calls)[-2:], [[0, 1, 150], [0, 100, 0, 0, 50, 50, 0]])

    def test_a_later_charge_changes_nothing(self):
        self.assertEqual(last(SIX_FLOWN + [charge(1, 2, 10000), books(1)]), [0, 2100, 1100, 100, 29, 471, 400])

    def test_great_sums(self):
        calls = THREE + [issue(t, 1, 1000000000, (2, 1, 0)) for t in range(1, 41)]
        self.assertEqual(last(calls + [books(1)]), [0, 40000000000, 40000000000, 0, 0, 0, 0])

    def test_changes_nothing(self):
        self.assertEqual(self.unchanged(SIX_FLOWN, books(1)), [0, 2100, 1100, 100, 29, 471, 400])

    def test_no_such_carrier(self):
        self.refused(SIX_FLOWN, books(4), -3)
        self.refused(SIX_FLOWN, books(0), -3)
        self.refused([], books(675), -3)
        self.refused([], books(676), -2)


class PartTest(HouseTest):
    def test_each_thing_that_it_may_be(self):
        calls = SIX_FLOWN + [bill(3, 1), part(7, 0), part(7, 1), part(7, 2), part(7, 3), part(7, 4), part(7, 5)]
        self.assertEqual(run(calls)[-6:], [[0, 1, 100, 0, 1, 0], [0, 2, 200, 20, 2, 0], [0, 3, 300, 9, 3, 1],
                                           [0, 2, 400, 0, 4, 0], [0, 1, 500, 0, 0, 0], [0, 3, 600, 0, 0, 0]])

    def test_the_claim_that_bills_it(self):
        calls = SIX_FLOWN + owing((2, 3, 5), first=20) + [bill(3, 1), bill(2, 1), part(20, 0), part(7, 1), part(7, 2)]
        self.assertEqual([row[-1] for row in run(calls)[-3:]], [1, 3, 2])

    def test_stays_billed_by_its_claim(self):
        calls = SIX_FLOWN + [bill(2, 1), reject(1, 100), clear(), part(7, 1)]
        self.assertEqual(last(calls), [0, 2, 200, 20, 3, 1])

    def test_the_first_and_the_eighth_part(self):
        calls = THREE + [issue(999999999, 1, 36, *[(2, factor, 0) for factor in range(1, 9)])]
        self.assertEqual(run(calls + [part(999999999, 0), part(999999999, 7)])[-2:],
                         [[0, 2, 1, 0, 0, 0], [0, 2, 8, 0, 0, 0]])

    def test_changes_nothing(self):
        self.assertEqual(self.unchanged(SIX_FLOWN, part(7, 0)), [0, 1, 100, 0, 1, 0])

    def test_no_such_ticket_or_part(self):
        self.refused(SIX_FLOWN, part(8, 0), -4)
        self.refused(SIX_FLOWN, part(7, 6), -4)
        self.refused(SIX_FLOWN, part(7, 7), -4)
        self.refused([], part(1, 0), -4)
        self.refused(SIX_FLOWN, part(7, 8), -2)
        self.refused(SIX_FLOWN, part(0, 0), -2)


class ClaimTest(HouseTest):
    def test_of_a_bill(self):
        self.assertEqual(last(SIX_FLOWN + [bill(2, 1), claim(1)]), [0, 2, 1, 180, 0, 0, 0, 0, 0])

    def test_of_rejections(self):
        calls = SIX_FLOWN + [bill(2, 1), bill(3, 1), reject(1, 100), clear(), reject(3, 40), clear(), reject(4, 7)]
        self.assertEqual(run(calls + [claim(number) for number in range(1, 6)])[-5:], [
            [0, 2, 1, 180, 0, 0, 0, 3, 1],
            [0, 3, 1, 291, 0, 0, 0, 0, 1],
            [0, 1, 2, 100, 0, 1, 1, 4, 1],
            [0, 2, 1, 40, 1, 2, 3, 5, 1],
            [0, 1, 2, 7, 2, 3, 4, 0, 0],
        ])

    def test_of_0(self):
        self.assertEqual(last(THREE + owing((1, 2, 0)) + [claim(1)]), [0, 2, 1, 0, 0, 0, 0, 0, 0])

    def test_carriers_with_great_numbers(self):
        calls = [carrier(675), carrier(0)] + owing((675, 0, 3)) + [claim(1)]
        self.assertEqual(last(calls), [0, 0, 675, 3, 0, 0, 0, 0, 0])

    def test_not_settled_if_a_carrier_is_suspended(self):
        for c in (1, 2):
            calls = THREE + owing((1, 2, 5)) + [suspend(c, 1), clear(), claim(1)]
            self.assertEqual(last(calls), [0, 2, 1, 5, 0, 0, 0, 0, 0])

    def test_changes_nothing(self):
        self.assertEqual(self.unchanged(THREE + owing((1, 2, 5)), claim(1)), [0, 2, 1, 5, 0, 0, 0, 0, 0])

    def test_no_such_claim(self):
        self.refused([], claim(1), -4)
        self.refused(THREE + owing((1, 2, 5)), claim(2), -4)
        self.refused(THREE + owing((1, 2, 5)), claim(999), -4)
        self.refused(THREE + owing((1, 2, 5)), claim(0), -2)
        self.refused(THREE + owing((1, 2, 5)), claim(1000), -2)


class UnbilledTest(HouseTest):
    def test_nothing(self):
        self.assertEqual(last(SIX + [unbilled(2, 1)]), [0, 0, 0])

    def test_how_many_and_their_shares_less_kept(self):
        self.assertEqual(run(SIX_FLOWN + [unbilled(2, 1), unbilled(3, 1)])[-2:], [[0, 1, 180], [0, 1, 291]])
        self.assertEqual(last(SIX_FLOWN + [fly(7, 5), unbilled(3, 1)]), [0, 2, 872])

    def test_over_several_tickets(self):
        calls = SIX_FLOWN + [issue(3, 1, 90, (2, 1, 0), (2, 1, 0)), fly(3, 0), fly(3, 1)]
        self.assertEqual(last(calls + [unbilled(2, 1)]), [0, 3, 262])

    def test_not_the_other_way_round(self):
        self.assertEqual(run(SIX_FLOWN + [unbilled(1, 2), unbilled(2, 3), unbilled(3, 2)])[-3:], [[0, 0, 0]] * 3)

    def test_what_is_billed_does_not_count(self):
        self.assertEqual(run(SIX_FLOWN + [bill(2, 1), unbilled(2, 1), unbilled(3, 1)])[-2:], [[0, 0, 0], [0, 1, 291]])
        self.assertEqual(last(SIX_FLOWN + [bill(3, 1), fly(7, 5), unbilled(3, 1)]), [0, 1, 581])

    def test_a_share_of_0_counts_as_a_part(self):
        self.assertEqual(last(THREE + [issue(7, 1, 0, (2, 1, 0)), fly(7, 0), unbilled(2, 1)]), [0, 1, 0])

    def test_in_a_s_currency_with_a_rate_or_without(self):
        calls = [carrier(1, 5), carrier(2, 6), issue(7, 1, 100, (2, 1, 0)), fly(7, 0)]
        self.assertEqual(run(calls + [bill(2, 1), unbilled(2, 1)])[-2:], [[-7], [0, 1, 100]])
        self.assertEqual(last(calls + [rate(5, 3, 1), rate(6, 5, 1), unbilled(2, 1)]), [0, 1, 100])

    def test_when_there_is_no_room_for_the_claims(self):
        calls = THREE + [issue(t, 1, 80, *[(2, 1, 0)] * 8) for t in range(1, 27)]
        calls += [fly(1 + at // 8, at % 8) for at in range(201)]
        self.assertEqual(run(calls + [bill(2, 1), unbilled(2, 1)])[-2:], [[-6], [0, 201, 2010]])

    def test_suspended_carriers(self):
        self.assertEqual(last(SIX_FLOWN + [suspend(1, 1), suspend(2, 1), unbilled(2, 1)]), [0, 1, 180])

    def test_changes_nothing(self):
        self.assertEqual(self.unchanged(SIX_FLOWN, unbilled(2, 1)), [0, 1, 180])

    def test_carriers_that_are_not_there(self):
        self.refused(SIX_FLOWN, unbilled(4, 1), -3)
        self.refused(SIX_FLOWN, unbilled(1, 4), -3)
        self.refused(SIX_FLOWN, unbilled(4, 5), -3)

    def test_a_carrier_from_itself(self):
        self.refused(SIX_FLOWN, unbilled(1, 1), -8)

    def test_order_of_refusals(self):
        self.refused(SIX_FLOWN, unbilled(4, 4), -3)
        self.refused(SIX_FLOWN, unbilled(676, 676), -2)
        self.refused(SIX_FLOWN, unbilled(4, 676), -2)
        self.refused([carrier(1, 5)], unbilled(1, 1), -8)


if __name__ == "__main__":
    unittest.main()
