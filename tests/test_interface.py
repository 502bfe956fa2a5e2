"""The interface: how calls and answers stand in their lists, and that nothing is kept or changed."""

import inspect
import sys
import time
import unittest

from carriermoney import accounts
from carriermoney.accounts import answers
from carriermoney.house import House
from tests.helper import (FAR, PLAIN_COUNTS, ROWED, HouseTest, account, bill, books, carrier, charge, check, claim,
                          clear, cut, do, effect, flat, fly, grouped, issue, month, nets, owed, owing, part, plan,
                          plan_by_the_words, rate, refund, reject, run, snapshot, suspend, unbilled, with_nets)

STORY = [carrier(1, 5), carrier(2), rate(5, 3, 2), charge(1, 2, 900), issue(7, 1, 1000, (2, 1, 0), (1, 1, 0)),
         fly(7, 0), refund(7, 1), bill(2, 1), reject(1, 83), effect(1), owed(1, 2), cut(5, (1, 0), (1, 0)), fly(7, 2),
         nets(), plan(), check((1, 2, 600)), suspend(2, 1), clear(), suspend(2, 0), clear(), account(1), books(1),
         part(7, 0), claim(2), unbilled(2, 1), month()]

# Pairs of a least and a greatest number to draw from, by place: small, so that calls often meet.
DRAWN = (
    ((0, 3), (0, 1)), ((1, 2), (0, 3), (1, 3)), ((0, 3), (0, 3), (-1, 10000)), ((1, 6), (0, 3), (0, 500)),
    ((-1, 500),), ((1, 6), (0, 3)), ((1, 6), (0, 3)), ((0, 3), (0, 3)), ((0, 6), (0, 300)), ((0, 6),), ((0, 3), (0, 3)),
    (), (), ((0, 3), (0, 2)), (), ((0, 4),), ((0, 4),), ((1, 6), (0, 3)), ((0, 6),), ((0, 3), (0, 3)), (), (),
)
DRAWN_ROWS = {3: ((0, 3), (0, 9), (0, 90)), 4: ((0, 9), (-1, 90)), 21: ((0, 4), (0, 3), (-1, 90))}

# Each place, and those without which there are no claims more often.
PLACES = tuple(range(22)) + (0, 3) + (5, 7) * 5 + (8,) * 4

# With each of these places nothing is changed, whatever is answered.
ASKING = (4, 9, 10, 11, 12, 15, 16, 17, 18, 19, 20, 21)


class Draw:
    """Numbers that look random and are the same each time."""

    def __init__(self, seed):
        self.seed = seed

    def number(self, bounds):
        self.seed = (self.seed * 6364136223846793005 + 1442695040888963407) % 2 ** 64
        return bounds[0] + (self.seed >> 33) % (bounds[1] - bounds[0] + 1)

    def call(self):
        place = PLACES[self.number((0, len(PLACES) - 1))]
        plain = [self.number(bounds) for bounds in DRAWN[place]]
        if place not in DRAWN_ROWS:
            return (place, plain, None)
        groups = DRAWN_ROWS[place] * self.number((1, 4))
        return (place, plain, [self.number(bounds) for bounds in groups])


class FormTest(HouseTest):
    def test_the_function(self):
        self.assertEqual(list(inspect.signature(accounts.answers).parameters), ["calls"])

    def test_written_out(self):
        calls = [0, 1, 0, 0, 2, 0, 3, 9, 1, 101, 6, 2, 1, 0, 1, 1, 0, 5, 9, 0, 5, 9, 0, 7, 2, 1]
        self.assertEqual(answers(calls), [1, 0, 1, 0, 3, 0, 51, 50, 3, 0, 51, 0, 1, -7, 3, 0, 1, 51])

    def test_a_story(self):
        self.assertEqual(run(STORY), [[0], [0], [0], [0], [0, 500, 500], [0, 500, 45], [0, 500], [0, 1, 683], [0, 2],
                                      [0, 600], [0, 683, 83], [0, 3, 2], [-4], [0, 1, -600, 2, 600], [0, 1, 2, 600],
                                      [0, 1], [0], [0], [0], [0, 1, 2, 600], [0, 5, 0, 600, 0, 0],
                                      [0, 1000, 0, 0, 45, 455, 500], [0, 2, 500, 45, 3, 1],
                                      [0, 1, 2, 83, 0, 1, 1, 0, 1], [0, 0, 0], [0, 2]])
        self.assertEqual({call[0] for call in STORY}, set(range(22)))

    def test_an_empty_row_is_a_count_of_0(self):
        self.assertEqual(answers([4, 10, 0, 4, 10, 2, 1, 0]), [1, -2, 2, 0, 10])

    def test_a_refused_row_is_passed_over_to_its_end(self):
        self.assertEqual(answers([4, 10, 3, 0, 0, 0, 0, 1, 0, 0, 1, 0]), [1, -2, 1, 0, 1, -5])
        self.assertEqual(answers([4, 10, 100] + [FAR] * 100 + [0, 1, 0]), [1, -2, 1, 0])

    def test_every_place_is_read_to_its_end(self):
        for place, count in enumerate(PLAIN_COUNTS):
            for size in (0, 1, 2, 3, 100) if place in ROWED else (None,):
                row = None if size is None else [-FAR] * size
                found = run([carrier(1), (place, [-FAR] * count, row), carrier(1), carrier(2)])
                self.assertEqual([found[0], found[2], found[3]], [[0], [-5], [0]], place)

    def test_written_out_with_calls_that_have_no_arguments(self):
        calls = [11, 12, 14, 20, 21, 0, 0, 2, 0, 0, 1, 0, 11, 21, 3, 2, 1, 5, 21, 6, 2, 1, 5, 1, 2, 5, 15, 1]
        self.assertEqual(answers(calls), [1, 0, 1, 0, 1, 0, 2, 0, 1, 2, 0, 1, 1, 0, 1, 0, 5, 0, 1, 0, 2, 0,
                                          2, 0, 0, 2, 0, 1, 6, 0, 0, 0, 0, 0, 0])

    def test_400_calls(self):
        self.assertEqual(run([carrier(at, 0) for at in range(400)]), [[0]] * 10 + [[-6]] * 390)

    def test_16000_numbers(self):
        longest = [(4, [10], [1] * 37)] * 400
        self.assertEqual(len(flat(longest)), 16000)
        self.assertEqual(run(longest), [[-2]] * 400)
        self.assertEqual(run([(4, [10], [1, 0] * 8)] * 400), [[0, 2, 2, 1, 1, 1, 1, 1, 1]] * 400)

    def test_no_call_within_call_grows_with_the_input(self):
        depth = len(inspect.stack())
        limit = sys.getrecursionlimit()
        calls = flat([carrier(1), carrier(2)] + [issue(7, 1, 8, *[(2, 1, 0)] * 8)] + [effect(1)] * 397)
        sys.setrecursionlimit(depth + 30)
        try:
            given = answers(calls)
        finally:
            sys.setrecursionlimit(limit)
        self.assertEqual(given[-2:], [1, -4])

    def test_the_longest_lists_of_the_calls_without_arguments(self):
        for call, answer in ((nets(), [0]), (plan(), [0]), (clear(), [0]), (check(), [0, 1])):
            self.assertEqual(run([call] * 400), [answer] * 400)


class SpeedTest(HouseTest):
    def seconds(self, calls):
        self.assertLessEqual(len(calls), 400)
        numbers = flat(calls)
        self.assertLessEqual(len(numbers), 16000)
        before = time.process_time()
        answers(numbers)
        return time.process_time() - before

    def test_plan_of_ten_carriers_many_times(self):
        for sums in ([1, -1] * 5, [9] + [-1] * 9, [1, 2, 3, 4, 5, -5, -4, -3, -2, -1], [3 ** at for at in range(9)]):
            sums = sums + [-sum(sums)] * (10 - len(sums))
            calls = with_nets(dict(enumerate(sums)))
            self.assertLess(self.seconds(calls + [plan()] * (400 - len(calls))), 4)

    def test_plan_and_clear_of_ten_carriers_in_turn(self):
        # In each round 5 to 9 fly one more part of the tickets of 0 to 4, so that all ten have something to settle.
        calls = [carrier(c) for c in range(10)]
        calls += [issue(c * 4 + at + 1, c, 80, *[(9 - c, 1, 0)] * 8) for c in range(5) for at in range(4)]
        for at in range(30):
            for c in range(5):
                calls += [fly(c * 4 + at // 8 + 1, at % 8), bill(9 - c, c)]
            calls += [plan(), clear()]
        payments = [0] + [number for c in range(5) for number in (c, c + 5, 10)]
        self.assertEqual([answer for call, answer in zip(calls, run(calls)) if call[0] in (12, 14)], [payments] * 60)
        self.assertLess(self.seconds(calls), 4)


class NothingKeptTest(HouseTest):
    def test_the_list_is_left_as_it_was(self):
        calls = flat(STORY)
        before = list(calls)
        answers(calls)
        self.assertEqual(calls, before)

    def test_the_list_is_not_changed_for_a_while_either(self):
        class Frozen(list):
            def refuse(self, *given, **named):
                raise AssertionError("the list handed in was changed")
            __setitem__ = __delitem__ = __iadd__ = __imul__ = refuse
            append = extend = insert = pop = remove = clear = sort = reverse = refuse
        self.assertEqual(answers(Frozen(flat(STORY))), answers(flat(STORY)))

    def test_a_second_run_gives_the_same(self):
        calls = flat(STORY)
        self.assertEqual(answers(calls), answers(calls))

    def test_one_list_does_not_know_of_another(self):
        answers(flat(STORY))
        self.assertEqual(run([owed(1, 2), fly(7, 0), effect(1), carrier(1, 5), carrier(2), bill(2, 1)]),
                         [[-3], [-4], [-4], [0], [0], [-7]])
        self.assertEqual(run([carrier(1), carrier(2), issue(7, 1, 1000, (2, 1, 0)), fly(7, 0)])[-1], [0, 1000, 0])

    def test_what_is_given_back_is_the_caller_s(self):
        calls = flat(STORY)
        first = answers(calls)
        kept = list(first)
        first.clear()
        self.assertEqual(answers(calls), kept)

    def test_prints_nothing(self):
        class Loud:
            def write(self, text):
                raise AssertionError("something was printed")
        kept = sys.stdout
        sys.stdout = Loud()
        try:
            answers(flat(STORY))
        finally:
            sys.stdout = kept


class ManyCallsTest(HouseTest):
    def test_a_refused_call_changes_nothing(self):
        seen = {}
        for seed in range(40):
            draw = Draw(seed)
            house = House()
            for _ in range(200):
                call = draw.call()
                before = snapshot(house)
                answer = do(house, [call])[0]
                seen[(call[0], answer[0])] = True
                if answer[0] < 0:
                    self.assertEqual(len(answer), 1)
                if answer[0] < 0 or call[0] in ASKING:
                    self.assertEqual(snapshot(house), before)
        for met in ((0, -5), (1, -2), (2, -8), (3, -3), (3, -5), (4, -2), (5, -7), (6, -4), (7, -7), (8, -8), (9, -4),
                    (13, -2), (13, -3), (15, -3), (16, -3), (17, -4), (18, -4), (19, -3), (19, -8), (21, -2), (21, -3)):
            self.assertIn(met, seen)
        for place in range(22):
            self.assertIn((place, 0), seen)
        self.assertEqual([met for met in seen if met[1] == -1], [])

    def test_leaving_out_the_refused_calls_answers_the_same(self):
        for seed in range(100, 140):
            draw = Draw(seed)
            calls = [draw.call() for _ in range(200)]
            found = run(calls)
            taken = [call for call, answer in zip(calls, found) if answer[0] == 0]
            self.assertEqual(run(taken), [answer for answer in found if answer[0] == 0])

    def test_shares_are_together_the_value(self):
        for seed in range(200, 220):
            draw = Draw(seed)
            calls = [call for call in [draw.call() for _ in range(200)] if call[0] in (0, 3, 4)]
            for call, answer in zip(calls, run(calls)):
                if call[0] in (3, 4) and answer[0] == 0:
                    self.assertEqual(sum(answer), call[1][-1])

    def looked_through(self, house):
        """Looks that what the house answers fits together, and that it is cleared as all partings gone through say."""
        net = dict(grouped(do(house, [nets()])[0], 2))
        self.assertEqual(list(net), sorted(net))
        self.assertEqual(sum(net.values()), 0)
        payments = grouped(do(house, [plan()])[0], 3)
        self.assertEqual(payments, plan_by_the_words(net))
        self.assertEqual(do(house, [check(*payments)]), [[0, 1]])
        before = {c: do(house, [account(c)])[0] for c in net}
        for c in net:
            sums = do(house, [books(c)])[0][1:]
            self.assertEqual(sums[0], sum(sums[1:]))
            between = [do(house, [owed(c, other)])[0] for other in net]
            self.assertEqual(before[c][5], sum(row[2] - row[1] for row in between))
        self.assertEqual(grouped(do(house, [clear()])[0], 3), payments)
        for c in net:
            paid = sum(amount for pays, _, amount in payments if pays == c)
            got = sum(amount for _, gets, amount in payments if gets == c)
            after = do(house, [account(c)])[0]
            self.assertEqual(got - paid, net[c])
            self.assertEqual(after, before[c][:3] + [before[c][3] + paid, before[c][4] + got, before[c][5] - net[c]])
        self.assertEqual(set(do(house, [nets()])[0][2::2]) | {0}, {0})

    def test_what_is_answered_fits_together(self):
        for seed in range(300, 330):
            draw = Draw(seed)
            house = House()
            do(house, [carrier(c) for c in (90, 8, 70, 6, 50, 4, 30, 2, 10, 0)] + [charge(90, 4, 5000)])
            carriers = list(house.carriers)
            for at in range(8):
                debts = [(carriers[draw.number((0, 4))], carriers[draw.number((5, 9))], draw.number((0, 5)))
                         for _ in range(5)]
                do(house, owing(*[debt if draw.number((0, 1)) else (debt[1], debt[0], debt[2]) for debt in debts],
                                first=5 * at + 1))
                do(house, [reject(draw.number((1, 5 * at + 5)), draw.number((1, 5))) for _ in range(3)])
                do(house, [suspend(carriers[draw.number((0, 9))], 1), suspend(carriers[draw.number((0, 9))], 0)])
                self.looked_through(house)
            do(house, [suspend(c, 0) for c in carriers])
            self.looked_through(house)
            self.assertEqual([row[5] for row in do(house, [account(c) for c in carriers])], [0] * 10)
            self.assertGreater(sum(row[3] for row in do(house, [account(c) for c in carriers])), 10)


if __name__ == "__main__":
    unittest.main()
