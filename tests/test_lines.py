import inspect
import itertools
import unittest

import reference
from turnscript.errors import NoCut, NoMark, TurnError
from turnscript.lines import lines
from turnscript.seeing import order

FAR = 10 ** 30
VERY_FAR = 10 ** 5000


def rising_cuts(count):
    for many in range(count):
        yield from (list(cuts) for cuts in itertools.combinations(range(1, count), many))


class Interface(unittest.TestCase):
    def test_names_of_the_arguments(self):
        self.assertEqual(list(inspect.signature(lines).parameters), ["levels", "cuts"])

    def test_kinds_of_the_answers(self):
        told = lines([0, 1, 2], [1])
        self.assertIs(type(told), list)
        self.assertEqual({type(line) for line in told}, {list})
        self.assertEqual({type(place) for line in told for place in line}, {int})


class Lines(unittest.TestCase):
    def check(self, row, cuts, told):
        self.assertEqual(lines(row, cuts), told, (row, cuts))

    def test_levels_of_none(self):
        self.check([], [], [[]])

    def test_no_cut(self):
        self.check([0], [], [[0]])
        self.check([0, 1, 1, 0], [], [[0, 2, 1, 3]])
        self.check([1] * 60, [], [list(range(59, -1, -1))])

    def test_one_cut(self):
        self.check([1] * 4, [2], [[1, 0], [3, 2]])
        self.check([0, 1, 1, 0], [2], [[0, 1], [2, 3]])
        self.check([1, 2, 2, 1], [2], [[1, 0], [3, 2]])

    def test_several_cuts(self):
        self.check([0, 1, 1, 1, 2, 2, 1], [3, 4], [[0, 2, 1], [3], [6, 4, 5]])
        self.check([1] * 60, [20, 40], [list(range(19, -1, -1)), list(range(39, 19, -1)), list(range(59, 39, -1))])

    def test_lines_of_one_place(self):
        self.check([1, 1, 1], [1], [[0], [2, 1]])
        self.check([1, 1, 1], [2], [[1, 0], [2]])
        self.check([1, 1, 1], [1, 2], [[0], [1], [2]])
        self.check([0, 3], [1], [[0], [1]])

    def test_a_line_is_turned_by_its_own_levels_alone(self):
        row = [1, 2, 2, 2, 1]
        self.check(row, [], [[4, 1, 2, 3, 0]])
        self.check(row, [3], [[1, 2, 0], [4, 3]])

    def test_each_line_by_the_order_of_its_own_levels(self):
        for row in itertools.product(range(3), repeat=5):
            for cuts in rising_cuts(5):
                edges = [0] + cuts + [5]
                told = [[first + k for k in order(list(row[first:behind]))] for first, behind in zip(edges, edges[1:])]
                self.check(list(row), cuts, told)

    def test_word_by_word(self):
        for count in range(1, 6):
            for row in itertools.product((0, 1, 2, 5), repeat=count):
                for cuts in rising_cuts(count):
                    self.check(list(row), cuts, reference.lines(list(row), cuts))

    def test_somewhat_beyond_the_bounds(self):
        self.check([1] * 80, [70], [list(range(69, -1, -1)), list(range(79, 69, -1))])
        self.check([0] * 300, list(range(1, 300)), [[place] for place in range(300)])
        self.check([11, 11, 12, 12], [2], [[1, 0], [2, 3]])


class NoCuts(unittest.TestCase):
    def refused(self, row, cuts):
        with self.assertRaises(TurnError) as caught:
            lines(row, cuts)
        self.assertIs(type(caught.exception), NoCut)
        self.assertIsInstance(caught.exception, ValueError)
        self.assertNotIsInstance(caught.exception, NoMark)

    def test_a_cut_told_twice(self):
        self.refused([0] * 5, [2, 2])
        self.refused([0] * 5, [1, 2, 2, 3])
        self.refused([0] * 5, [1, 3, 3])

    def test_cuts_that_fall(self):
        self.refused([0] * 5, [3, 2])
        self.refused([0] * 5, [1, 4, 2])
        self.refused([0] * 5, [2, 1, 3])

    def test_a_cut_below_one(self):
        self.refused([0] * 5, [0])
        self.refused([0] * 5, [-1])
        self.refused([0] * 5, [0, 2])
        self.refused([0] * 5, [-2, -1, 3])

    def test_a_cut_at_the_number_of_levels_or_beyond(self):
        self.refused([0] * 5, [5])
        self.refused([0] * 5, [6])
        self.refused([0] * 5, [1, 4, 5])
        self.refused([0] * 5, [1, 9])

    def test_numbers_far_off(self):
        for far in (FAR, VERY_FAR):
            for row in ([], [1], [0] * 5):
                self.refused(row, [far])
                self.refused(row, [-far])
                self.refused(row, [1, far])
                self.refused(row, [-far, 1])

    def test_any_cut_over_levels_of_none_or_of_one(self):
        for row in ([], [0], [1]):
            for cut in (-1, 0, 1, 2):
                self.refused(row, [cut])
            self.refused(row, [0, 1])

    def test_all_cuts_round_a_row(self):
        good = list(rising_cuts(4))
        for many in range(4):
            for cuts in itertools.product(range(-2, 7), repeat=many):
                if list(cuts) not in good:
                    self.refused([1] * 4, list(cuts))

    def test_nothing_is_changed_by_a_refusal(self):
        row, cuts = [0, 1, 1], [2, 1]
        self.refused(row, cuts)
        self.assertEqual((row, cuts), ([0, 1, 1], [2, 1]))


class WhatIsHandedInAndTold(unittest.TestCase):
    def test_what_was_handed_in_is_as_it_was(self):
        for row, cuts in (([], []), ([1, 1, 2], []), ([0, 1, 1, 1, 2], [1, 3])):
            kept = (list(row), list(cuts))
            lines(row, cuts)
            self.assertEqual((row, cuts), kept)

    def test_what_was_handed_in_may_be_changed_later(self):
        row, cuts = [0, 1, 1, 1, 2], [1, 3]
        told = lines(row, cuts)
        row[1] = 0
        row.append(3)
        cuts.append(4)
        self.assertEqual(told, [[0], [2, 1], [4, 3]])
        self.assertEqual(lines([0, 1, 1, 1, 2], [1, 3]), [[0], [2, 1], [4, 3]])

    def test_the_same_answer_again_after_the_lists_were_changed(self):
        for row, cuts in (([], []), ([0], []), ([1, 1, 2], []), ([0, 1, 1, 1, 2], [1, 3])):
            first = lines(row, cuts)
            kept = [list(line) for line in first]
            second = lines(row, cuts)
            for line in first:
                line.append("more")
                line[0] = "changed"
            first.append("more")
            self.assertEqual(second, kept)
            self.assertEqual(lines(row, cuts), kept)

    def test_no_two_lists_are_one(self):
        row, cuts = [0, 0, 0, 0], [1, 2, 3]
        first, second = lines(row, cuts), lines(row, cuts)
        found = [row, cuts, first, second] + first + second
        self.assertEqual(len({id(one) for one in found}), len(found))
        empty, none = [], []
        told = lines(empty, none)
        self.assertEqual(len({id(one) for one in (empty, none, told, told[0])}), 4)


if __name__ == "__main__":
    unittest.main()
