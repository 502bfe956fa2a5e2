"""Promises 13 to 15, 20 and 21: suspend, clear, account, month, check."""

import unittest

from tests.helper import (HouseTest, account, bill, carrier, charge, check, claim, clear, effect, fly, grouped, issue,
                          last, month, nets, owed, owing, plan, rate, reject, run, suspend, unbilled, with_nets)

THREE = [carrier(1), carrier(2), carrier(3)]
MOST = 1000000000000000000

# Carrier 1 owes 60 in the end, carrier 3 33; carrier 2 gets all of it.
RING = THREE + owing((1, 2, 100), (3, 1, 40), (2, 3, 7))


def settled(calls, count):
    """Of the claims 1 to count, whether they are settled after the calls."""
    return [row[-1] for row in run(calls + [claim(number) for number in range(1, count + 1)])[-count:]]


class SuspendTest(HouseTest):
    def flag(self, calls, c=1):
        return last(calls + [account(c)])[2]

    def test_answers_0_alone(self):
        self.assertEqual(run(THREE + [suspend(1, 1), suspend(1, 0)])[-2:], [[0], [0]])

    def test_is_suspended_or_not_whatever_it_was(self):
        self.assertEqual(self.flag(THREE), 0)
        self.assertEqual(self.flag(THREE + [suspend(1, 1)]), 1)
        self.assertEqual(self.flag(THREE + [suspend(1, 1), suspend(1, 1)]), 1)
        self.assertEqual(self.flag(THREE + [suspend(1, 0)]), 0)
        self.assertEqual(self.flag(THREE + [suspend(1, 1), suspend(1, 0)]), 0)
        self.assertEqual(self.flag(THREE + [suspend(1, 1), suspend(1, 0), suspend(1, 1)]), 1)

    def test_others_stay_as_they_are(self):
        self.assertEqual([self.flag(THREE + [suspend(2, 1)], c) for c in (1, 2, 3)], [0, 1, 0])

    def test_is_not_ended_by_a_clearing(self):
        self.assertEqual(self.flag(THREE + [suspend(1, 1), clear()]), 1)

    def test_a_suspended_carrier_may_do_all_else(self):
        calls = THREE + [suspend(1, 1), suspend(2, 1), charge(1, 2, 1000)]
        calls += [issue(7, 1, 100, (2, 1, 0)), fly(7, 0), unbilled(2, 1), bill(2, 1)]
        calls += [reject(1, 50), effect(1), owed(1, 2)]
        self.assertEqual(run(calls)[-7:],
                         [[0, 100], [0, 100, 10], [0, 1, 90], [0, 1, 90], [0, 2], [0, 40], [0, 90, 50]])

    def test_no_such_carrier(self):
        self.refused(THREE, suspend(4, 1), -3)
        self.refused(THREE, suspend(0, 0), -3)
        self.refused([], suspend(675, 1), -3)

    def test_out_of_range_comes_first(self):
        self.refused([], suspend(676, 1), -2)
        self.refused([], suspend(1, 2), -2)
        self.refused([], suspend(1, -1), -2)


class ClearTest(HouseTest):
    def test_no_carriers(self):
        self.assertEqual(run([clear(), month()]), [[0], [0, 1]])

    def test_carriers_without_claims(self):
        self.assertEqual(run(THREE + [clear(), month(), account(1)])[-3:], [[0], [0, 1], [0, 0, 0, 0, 0, 0]])

    def test_answers_as_plan(self):
        self.assertEqual(run(RING + [plan(), clear()])[-2:], [[0, 1, 2, 60, 3, 2, 33]] * 2)

    def test_answers_as_plan_with_several_groups(self):
        calls = with_nets({5: 3, 1: -1, 9: -2, 2: -3, 7: 3})
        self.assertEqual(run(calls + [plan(), clear()])[-2:], [[0, 1, 5, 1, 9, 5, 2, 2, 7, 3]] * 2)

    def test_the_claims_are_settled(self):
        self.assertEqual(settled(RING, 3), [0, 0, 0])
        self.assertEqual(settled(RING + [clear()], 3), [1, 1, 1])
        self.assertEqual(run(RING + [clear(), nets(), plan(), owed(1, 2)])[-3:],
                         [[0, 1, 0, 2, 0, 3, 0], [0], [0, 0, 0]])

    def test_nothing_else_of_a_claim_is_changed(self):
        calls = RING + [reject(1, 30), clear(), claim(1), claim(4)]
        self.assertEqual(run(calls)[-2:], [[0, 2, 1, 100, 0, 0, 0, 4, 1], [0, 1, 2, 30, 0, 1, 1, 0, 1]])

    def test_claims_of_0_and_claims_that_are_set_off_are_settled_without_payments(self):
        calls = THREE + owing((1, 2, 0), (2, 3, 8), (3, 2, 8))
        self.assertEqual(last(calls + [clear()]), [0])
        self.assertEqual(settled(calls + [clear()], 3), [1, 1, 1])

    def test_a_second_clearing_has_nothing_left_to_pay(self):
        self.assertEqual(run(RING + [clear(), clear(), month()])[-2:], [[0], [0, 2]])

    def test_what_is_billed_later_is_cleared_later(self):
        calls = THREE + [issue(7, 1, 100, (2, 1, 0), (2, 1, 0)), fly(7, 0), bill(2, 1), fly(7, 1), clear(), nets()]
        self.assertEqual(run(calls)[-2:], [[0, 1, 2, 50], [0, 1, 0, 2, 0, 3, 0]])
        self.assertEqual(last(calls + [bill(2, 1), clear()]), [0, 1, 2, 50])

    def test_a_suspended_carrier_s_claims_are_left_on_either_side(self):
        calls = RING + [suspend(1, 1), clear()]
        self.assertEqual(last(calls), [0, 2, 3, 7])
        self.assertEqual(settled(calls, 3), [0, 0, 1])
        self.assertEqual(settled(RING + [suspend(2, 1), clear()], 3), [0, 1, 0])
        self.assertEqual(settled(RING + [suspend(3, 1), clear()], 3), [1, 0, 0])
        self.assertEqual(settled(RING + [suspend(3, 1), suspend(2, 1), clear()], 3), [0, 0, 0])

    def test_when_it_is_suspended_no_more_they_are_cleared(self):
        calls = RING + [suspend(1, 1), clear(), clear(), suspend(1, 0), clear()]
        self.assertEqual(grouped(last(calls), 3), [(1, 2, 60), (3, 2, 40)])
        self.assertEqual(settled(calls, 3), [1, 1, 1])

    def test_who_is_suspended_after_a_clearing_does_not_matter_to_it(self):
        self.assertEqual(settled(RING + [clear(), suspend(1, 1), suspend(2, 1)], 3), [1, 1, 1])

    def test_a_claim_rejected_after_it_was_settled(self):
        calls = THREE + owing((1, 2, 100)) + [clear(), reject(1, 30), nets(), clear()]
        self.assertEqual([run(calls)[-4], run(calls)[-2], run(calls)[-1]],
                         [[0, 1, 2, 100], [0, 1, 30, 2, -30, 3, 0], [0, 2, 1, 30]])
        self.assertEqual(settled(calls, 2), [1, 1])
        self.assertEqual(run(calls + [account(1), account(2), effect(1)])[-3:],
                         [[0, 0, 0, 100, 30, 0], [0, 0, 0, 30, 100, 0], [0, 70]])

    def test_a_settled_claim_is_not_unsettled_by_its_rejection(self):
        self.assertEqual(settled(THREE + owing((1, 2, 100)) + [clear(), reject(1, 30)], 2), [1, 0])


class MonthTest(HouseTest):
    def test_is_0_at_first(self):
        self.assertEqual(run([month()]), [[0, 0]])
        self.assertEqual(last(RING + [plan(), month()]), [0, 0])

    def test_is_1_more_with_each_clearing(self):
        calls = [call for _ in range(200) for call in (clear(), month())]
        self.assertEqual(run(calls)[1::2], [[0, number] for number in range(1, 201)])

    def test_changes_nothing(self):
        self.assertEqual(self.unchanged(RING + [clear()], month()), [0, 1])


class AccountTest(HouseTest):
    def test_of_a_new_carrier(self):
        self.assertEqual(run([carrier(675, 7), carrier(0), account(675), account(0)])[-2:],
                         [[0, 7, 0, 0, 0, 0], [0, 0, 0, 0, 0, 0]])

    def test_what_is_not_settled(self):
        self.assertEqual(run(RING + [account(1), account(2), account(3)])[-3:],
                         [[0, 0, 0, 0, 0, -60], [0, 0, 0, 0, 0, 93], [0, 0, 0, 0, 0, -33]])

    def test_suspended_carriers_claims_count(self):
        for c in (1, 2, 3):
            found = run(RING + [suspend(c, 1), account(1), account(2), account(3)])[-3:]
            self.assertEqual([row[5] for row in found], [-60, 93, -33])
            self.assertEqual([row[2] for row in found], [1 if other == c else 0 for other in (1, 2, 3)])

    def test_after_a_clearing(self):
        self.assertEqual(run(RING + [clear(), account(1), account(2), account(3)])[-3:],
                         [[0, 0, 0, 60, 0, 0], [0, 0, 0, 0, 93, 0], [0, 0, 0, 33, 0, 0]])

    def test_after_a_clearing_without_a_suspended_one(self):
        found = run(RING + [suspend(1, 1), clear(), account(1), account(2), account(3)])
        self.assertEqual(found[-3:], [[0, 0, 1, 0, 0, -60], [0, 0, 0, 7, 0, 100], [0, 0, 0, 0, 7, -40]])

    def test_added_up_over_all_clearings(self):
        calls = RING + [clear()] + owing((2, 1, 25), (2, 3, 5), first=4) + [clear()] + owing((1, 3, 8), first=6)
        self.assertEqual(run(calls + [account(1), account(2), account(3)])[-3:],
                         [[0, 0, 0, 60, 25, -8], [0, 0, 0, 30, 93, 0], [0, 0, 0, 33, 5, 8]])
        self.assertEqual(run(calls + [clear(), account(1), account(2), account(3)])[-3:],
                         [[0, 0, 0, 68, 25, 0], [0, 0, 0, 30, 93, 0], [0, 0, 0, 33, 13, 0]])

    def test_a_plan_pays_nothing(self):
        self.assertEqual(last(RING + [plan(), plan(), account(1)]), [0, 0, 0, 0, 0, -60])

    def test_a_check_pays_nothing(self):
        self.assertEqual(last(RING + [check((1, 2, 60), (3, 2, 33)), account(1)]), [0, 0, 0, 0, 0, -60])

    def test_paid_and_got_are_in_the_clearing_s_currency(self):
        calls = [carrier(1, 5), carrier(2, 6), rate(5, 3, 1), rate(6, 7, 1)] + owing((1, 2, 10)) + [clear()]
        self.assertEqual(run(calls + [account(1), account(2)])[-2:], [[0, 5, 0, 30, 0, 0], [0, 6, 0, 0, 30, 0]])

    def test_changes_nothing(self):
        self.assertEqual(self.unchanged(RING, account(1)), [0, 0, 0, 0, 0, -60])

    def test_no_such_carrier(self):
        self.refused(THREE, account(4), -3)
        self.refused(THREE, account(0), -3)
        self.refused([], account(675), -3)
        self.refused([], account(676), -2)


class CheckTest(HouseTest):
    def checked(self, *payments, calls=RING):
        answer = last(calls + [check(*payments)])
        self.assertEqual(self.unchanged(calls, check(*payments)), answer)
        self.assertEqual((answer[0], len(answer)), (0, 2))
        return answer[1]

    def test_no_payments(self):
        self.assertEqual(self.checked(calls=[]), 1)
        self.assertEqual(self.checked(calls=THREE), 1)
        self.assertEqual(self.checked(calls=THREE + owing((1, 2, 0))), 1)
        self.assertEqual(self.checked(calls=RING), 0)
        self.assertEqual(self.checked(calls=RING + [clear()]), 1)

    def test_the_plan(self):
        self.assertEqual(self.checked((1, 2, 60), (3, 2, 33)), 1)

    def test_payments_that_are_not_the_plan_s(self):
        self.assertEqual(self.checked((3, 2, 33), (1, 2, 60)), 1)
        self.assertEqual(self.checked((1, 3, 60), (3, 2, 93)), 1)
        self.assertEqual(self.checked((1, 2, 100), (3, 1, 40), (2, 3, 7)), 1)
        self.assertEqual(self.checked((1, 2, 1), (3, 2, 32), (1, 2, 59), (3, 2, 1)), 1)

    def test_payments_that_do_not_settle(self):
        self.assertEqual(self.checked((1, 2, 60)), 0)
        self.assertEqual(self.checked((1, 2, 60), (3, 2, 32)), 0)
        self.assertEqual(self.checked((1, 2, 60), (3, 2, 34)), 0)
        self.assertEqual(self.checked((2, 1, 60), (2, 3, 33)), 0)
        self.assertEqual(self.checked((1, 2, 33), (3, 2, 60)), 0)
        self.assertEqual(self.checked((1, 2, 60), (3, 2, 33), (1, 2, 1)), 0)
        self.assertEqual(self.checked((1, 2, 5), calls=THREE), 0)

    def test_a_carrier_that_is_not_named_counts_too(self):
        self.assertEqual(self.checked((1, 2, 5), calls=with_nets({1: -5, 2: 5, 3: 0})), 1)
        self.assertEqual(self.checked((1, 2, 5), calls=with_nets({1: -5, 2: 5, 3: 4, 4: -4})), 0)

    def test_a_payment_to_itself_changes_nothing(self):
        self.assertEqual(self.checked((1, 1, 9), (1, 2, 60), (2, 2, MOST), (3, 2, 33), (3, 3, 0)), 1)
        self.assertEqual(self.checked((1, 1, 60), (3, 3, 33)), 0)
        self.assertEqual(self.checked((1, 1, 60), calls=THREE), 1)

    def test_a_payment_of_0_changes_nothing(self):
        self.assertEqual(self.checked((2, 1, 0), (1, 2, 60), (3, 2, 33), (2, 3, 0)), 1)
        self.assertEqual(self.checked((1, 2, 0), calls=THREE), 1)
        self.assertEqual(self.checked((1, 2, 0)), 0)

    def test_greatest_amounts(self):
        self.assertEqual(self.checked((1, 2, MOST), (2, 1, MOST), calls=THREE), 1)
        self.assertEqual(self.checked((1, 2, MOST), (2, 1, MOST - 1), calls=THREE), 0)
        self.assertEqual(self.checked((1, 2, MOST), (2, 1, MOST - 60), (3, 2, 33)), 1)
        self.assertEqual(self.checked(*[(1, 2, MOST), (2, 3, MOST), (3, 1, MOST)] * 10, calls=THREE), 1)

    def test_thirty_payments(self):
        self.assertEqual(self.checked(*[(1, 2, 2)] * 29, (1, 2, 2), calls=with_nets({1: -60, 2: 60})), 1)
        self.assertEqual(self.checked(*[(1, 2, 2)] * 29, (1, 2, 3), calls=with_nets({1: -60, 2: 60})), 0)
        self.refused(with_nets({1: -62, 2: 62}), check(*[(1, 2, 2)] * 31), -2)

    def test_suspended_carriers_have_nothing_to_settle(self):
        calls = RING + [suspend(1, 1)]
        self.assertEqual(self.checked((2, 3, 7), calls=calls), 1)
        self.assertEqual(self.checked((1, 2, 60), (3, 2, 33), calls=calls), 0)
        self.assertEqual(self.checked((2, 1, 7), (1, 3, 7), calls=calls), 1)

    def test_no_such_carrier(self):
        self.refused(RING, check((4, 2, 60)), -3)
        self.refused(RING, check((1, 4, 60)), -3)
        self.refused(RING, check((4, 4, 60)), -3)
        self.refused(RING, check((1, 2, 60), (3, 2, 33), (0, 0, 0)), -3)
        self.refused([], check((0, 0, 0)), -3)

    def test_amounts_are_not_taken_for_carriers(self):
        self.assertEqual(self.checked((1, 2, 600), (2, 1, 600), calls=THREE), 1)

    def test_out_of_range_comes_before_no_such_carrier(self):
        self.refused(RING, check((4, 2, MOST + 1)), -2)
        self.refused(RING, check((4, 2, 60), (1, 2, -1)), -2)
        self.refused(RING, (21, [], [4, 2, 60, 1]), -2)
        self.refused(RING, check(*[(4, 2, 1)] * 31), -2)


if __name__ == "__main__":
    unittest.main()
