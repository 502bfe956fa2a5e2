"""Promises 0 to 2: carrier, rate, charge."""

import unittest

from tests.helper import HouseTest, account, bill, carrier, charge, fly, issue, last, owed, rate, run

TEN = [carrier(c) for c in range(10)]


class CarrierTest(HouseTest):
    def test_is_there_afterwards(self):
        self.assertEqual(run([owed(3, 3), carrier(3), owed(3, 3)]), [[-3], [0], [0, 0, 0]])

    def test_has_its_currency_and_is_not_suspended(self):
        self.assertEqual(run([carrier(0, 0), carrier(675, 7), account(0), account(675)]),
                         [[0], [0], [0, 0, 0, 0, 0, 0], [0, 7, 0, 0, 0, 0]])

    def test_number_0_and_currency_0_are_as_good_as_others(self):
        self.assertEqual(run([carrier(0), carrier(0)]), [[0], [-5]])

    def test_twice_is_refused_and_keeps_the_first_currency(self):
        self.refused([carrier(3, 1)], carrier(3, 1), -5)
        self.refused([carrier(3, 1)], carrier(3, 0), -5)
        self.assertEqual(last([carrier(3, 1), carrier(4), carrier(3, 0), bill(4, 3)]), [-7])

    def test_ten_are_taken_and_no_more(self):
        self.assertEqual(run(TEN), [[0]] * 10)
        self.refused(TEN, carrier(10), -6)
        self.assertEqual(run(TEN + [carrier(675), owed(675, 0)])[-2:], [[-6], [-3]])

    def test_there_already_comes_before_full(self):
        self.refused(TEN, carrier(9), -5)

    def test_a_refused_one_takes_no_room(self):
        calls = [carrier(0), carrier(0), carrier(0), carrier(-1)] + TEN[1:]
        self.assertEqual(run(calls), [[0], [-5], [-5], [-2]] + [[0]] * 9)


class RateTest(HouseTest):
    def flown(self, value):
        return [carrier(1, 5), carrier(2), issue(9, 1, value, (2, 1, 0)), fly(9, 0)]

    def test_is_used_from_now_on(self):
        self.assertEqual(last(self.flown(100) + [rate(5, 3, 2), bill(2, 1)]), [0, 1, 150])

    def test_the_newest_holds_whatever_it_was(self):
        calls = self.flown(100) + [rate(5, 3, 2), rate(5, 7, 1), bill(2, 1)]
        self.assertEqual(run(calls)[-3:], [[0], [0], [0, 1, 700]])

    def test_needs_no_carrier_and_may_come_before_all(self):
        self.assertEqual(last([rate(5, 2, 1)] + self.flown(100) + [bill(2, 1)]), [0, 1, 200])

    def test_one_currency_s_rate_is_not_another_s(self):
        self.refused(self.flown(100) + [rate(4, 2, 1), rate(6, 2, 1)], bill(2, 1), -7)

    def test_a_refused_one_leaves_the_old_one(self):
        calls = self.flown(100) + [rate(5, 3, 2), rate(5, 0, 1), rate(5, 1, 0), bill(2, 1)]
        self.assertEqual(run(calls)[-3:], [[-2], [-2], [0, 1, 150]])

    def test_currency_0_takes_no_rate(self):
        self.refused([], rate(0, 1, 1), -2)


class ChargeTest(HouseTest):
    two = [carrier(1), carrier(2)]

    def kept(self, charges):
        ticket = [issue(9, 1, 1000, (2, 1, 0)), fly(9, 0)]
        return last(self.two + charges + ticket)[2]

    def test_is_0_at_first(self):
        self.assertEqual(self.kept([]), 0)
        self.assertEqual(last(self.two + [issue(9, 1, 1000000000, (2, 1, 0)), fly(9, 0)]), [0, 1000000000, 0])

    def test_is_what_a_keeps_of_b_s_shares(self):
        self.assertEqual(self.kept([charge(1, 2, 900)]), 90)

    def test_the_other_way_round_is_another_charge(self):
        self.assertEqual(self.kept([charge(2, 1, 900)]), 0)
        self.assertEqual(self.kept([charge(1, 2, 100), charge(2, 1, 900)]), 10)

    def test_the_newest_holds_whatever_it_was(self):
        self.assertEqual(self.kept([charge(1, 2, 900), charge(1, 2, 500)]), 50)
        self.assertEqual(self.kept([charge(1, 2, 900), charge(1, 2, 0)]), 0)
        self.assertEqual(self.kept([charge(1, 2, 900), charge(1, 2, 10000)]), 1000)

    def test_answers_0_alone(self):
        self.assertEqual(last(self.two + [charge(1, 2, 10000)]), [0])

    def test_carriers_that_are_not_there(self):
        self.refused(self.two, charge(1, 3, 5), -3)
        self.refused(self.two, charge(3, 1, 5), -3)
        self.refused(self.two, charge(3, 4, 5), -3)

    def test_a_carrier_with_itself(self):
        self.refused(self.two, charge(1, 1, 5), -8)
        self.refused(self.two, charge(1, 1, 0), -8)

    def test_no_such_carrier_comes_before_a_is_b(self):
        self.refused(self.two, charge(3, 3, 5), -3)

    def test_a_refused_one_leaves_the_old_one(self):
        self.assertEqual(self.kept([charge(1, 2, 900), charge(1, 2, 10001), charge(1, 3, 1)]), 90)


if __name__ == "__main__":
    unittest.main()
