"""The refusal -2: each argument's range, each number of a row, and the lengths of rows."""

import unittest

from tests.helper import FAR, HouseTest, carrier, fly, issue, last, bill

# A house with carriers at both ends of the range, two tickets of 8 parts at both ends, and claims.
BEFORE = [carrier(0), carrier(675), carrier(5), issue(1, 0, 80, *[(675, 1, 0)] * 8)]
BEFORE += [issue(999999999, 0, 80, *[(675, 1, 0)] * 8), fly(1, 1), bill(675, 0)]

# For each call: plain arguments and a row that are taken, and the range of each plain argument.
CALLS = {
    0: ([7, 0], None, [(0, 675), (0, 7)]),
    1: ([1, 1, 1], None, [(1, 7), (1, 1000000), (1, 1000000)]),
    2: ([5, 0, 0], None, [(0, 675), (0, 675), (0, 10000)]),
    3: ([2, 0, 10], [0, 1, 0], [(1, 999999999), (0, 675), (0, 1000000000)]),
    4: ([10], [1, 0], [(0, 1000000000)]),
    5: ([1, 0], None, [(1, 999999999), (0, 7)]),
    6: ([1, 0], None, [(1, 999999999), (0, 7)]),
    7: ([5, 0], None, [(0, 675), (0, 675)]),
    8: ([1, 1], None, [(1, 999), (1, 10000000000000000)]),
    9: ([1], None, [(1, 999)]),
    10: ([5, 0], None, [(0, 675), (0, 675)]),
    11: ([], None, []),
    12: ([], None, []),
    13: ([5, 0], None, [(0, 675), (0, 1)]),
    14: ([], None, []),
    15: ([5], None, [(0, 675)]),
    16: ([5], None, [(0, 675)]),
    17: ([1, 0], None, [(1, 999999999), (0, 7)]),
    18: ([1], None, [(1, 999)]),
    19: ([5, 0], None, [(0, 675), (0, 675)]),
    20: ([], None, []),
    21: ([], [0, 5, 0], []),
}

# For each call with a row: the ranges of a group's numbers, a group that is taken, the fewest and the most groups.
# Each group of issue and of cut is answered by a share; check is answered by one number, whatever its length.
ROWS = {
    3: ([(0, 675), (0, 1000000), (0, 1000000000)], [0, 1, 0], 1, 8),
    4: ([(0, 1000000), (0, 1000000000)], [1, 0], 1, 8),
    21: ([(0, 675), (0, 675), (0, 1000000000000000000)], [0, 5, 0], 0, 30),
}


def replaced(numbers, at, number):
    return numbers[:at] + [number] + numbers[at + 1:]


class PlainRangeTest(HouseTest):
    def each_argument(self):
        for place, (plain, row, ranges) in CALLS.items():
            for at, (least, most) in enumerate(ranges):
                yield place, plain, row, at, least, most

    def test_what_is_in_the_middle_is_taken(self):
        for place, (plain, row, _) in CALLS.items():
            self.assertEqual(last(BEFORE + [(place, plain, row)])[0], 0, place)

    def test_least_and_greatest_are_in_range(self):
        for place, plain, row, at, least, most in self.each_argument():
            for number in (least, most):
                answer = last(BEFORE + [(place, replaced(plain, at, number), row)])
                self.assertNotEqual(answer[0], -2, (place, at, number))

    def test_one_beyond_is_refused(self):
        for place, plain, row, at, least, most in self.each_argument():
            for number in (least - 1, most + 1):
                self.refused(BEFORE, (place, replaced(plain, at, number), row), -2)

    def test_far_beyond_is_refused(self):
        for place, plain, row, at, _, _ in self.each_argument():
            for number in (-FAR, -1, FAR):
                self.refused(BEFORE, (place, replaced(plain, at, number), row), -2)

    def test_comes_before_all_other_refusals(self):
        for place, plain, row, at, _, most in self.each_argument():
            self.refused([], (place, replaced(plain, at, most + 1), row), -2)


class RowRangeTest(HouseTest):
    def test_least_and_greatest_are_in_range(self):
        for place, (ranges, group, _, _) in ROWS.items():
            for at, bounds in enumerate(ranges):
                for number in bounds:
                    answer = last(BEFORE + [(place, CALLS[place][0], replaced(group, at, number))])
                    self.assertNotEqual(answer[0], -2, (place, at, number))

    def test_one_beyond_and_far_beyond_in_each_group(self):
        for place, (ranges, group, _, most_groups) in ROWS.items():
            for at in range(len(group) * most_groups):
                least, most = ranges[at % len(group)]
                for number in (least - 1, most + 1, -FAR, FAR):
                    row = replaced(group * most_groups, at, number)
                    self.refused(BEFORE, (place, CALLS[place][0], row), -2)

    def test_every_length(self):
        for place, (_, group, fewest_groups, most_groups) in ROWS.items():
            width = len(group)
            for length in range(101):
                call = (place, CALLS[place][0], (group * 100)[:length])
                if length % width != 0 or not fewest_groups <= length // width <= most_groups:
                    self.refused(BEFORE, call, -2)
                else:
                    answer = last(BEFORE + [call])
                    self.assertEqual(answer[0], 0)
                    self.assertEqual(len(answer), 2 if place == 21 else 1 + length // width)

    def test_a_wrong_row_comes_before_all_other_refusals(self):
        self.refused([], (3, [1, 5, 10], [5, 1]), -2)
        self.refused([], (3, [1, 5, 10], [5, 1, -1]), -2)
        self.refused(BEFORE, (3, [1, 6, 10], []), -2)
        self.refused([], (21, [], [5, 6]), -2)
        self.refused([], (21, [], [5, 6, -1]), -2)
        self.refused(BEFORE, (21, [], [0, 5, 1, 6, 7, 1000000000000000001]), -2)

    def test_a_wrong_length_with_numbers_out_of_range(self):
        self.refused([], (4, [-1], [FAR] * 100), -2)
        self.refused([], (3, [0, FAR, -1], [-FAR] * 100), -2)
        self.refused([], (21, [], [FAR] * 100), -2)


if __name__ == "__main__":
    unittest.main()
