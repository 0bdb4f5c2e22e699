import inspect
import itertools
import unittest

import reference
from turnscript.levels import levels as levels_of
from turnscript.seeing import order, seen_at, view

RISING_AND_FALLING = [0, 1, 2, 3, 4, 5, 6, 7, 8, 9, 8, 7, 6, 5, 4, 3, 2, 1, 0]


def short_rows():
    for length in range(6):
        yield from (list(row) for row in itertools.product(range(4), repeat=length))
    for row in itertools.product((0, 2, 5, 9), repeat=5):
        yield list(row)


def long_rows():
    for step in range(1, 150):
        for length in (17, 60):
            yield [(k * k * step + k * 7 + step) * 31 // 5 % (step % 10 + 1) for k in range(length)]


def rows():
    yield from short_rows()
    yield from long_rows()
    yield RISING_AND_FALLING


def rows_of_neighbours(levels, least):
    """The written places of each longest row of neighbours of a level or more."""
    for high, group in itertools.groupby(range(len(levels)), lambda place: levels[place] >= least):
        if high:
            yield list(group)


class Interface(unittest.TestCase):
    def test_names_of_the_arguments(self):
        self.assertEqual(list(inspect.signature(order).parameters), ["levels"])
        self.assertEqual(list(inspect.signature(seen_at).parameters), ["levels"])
        self.assertEqual(list(inspect.signature(view).parameters), ["text", "base"])

    def test_kinds_of_the_answers(self):
        for told in (order([0, 1, 2, 1]), seen_at([0, 1, 2, 1])):
            self.assertIs(type(told), list)
            self.assertEqual({type(place) for place in told}, {int})
        self.assertIs(type(order([])), list)
        self.assertIs(type(seen_at([])), list)
        self.assertIs(type(view("", 0)), str)
        self.assertIs(type(view("aB", 1)), str)


class Order(unittest.TestCase):
    def check(self, row, told):
        self.assertEqual(order(row), told, row)

    def test_no_level(self):
        self.check([], [])

    def test_one_level(self):
        for level in range(10):
            self.check([level], [0])

    def test_all_levels_zero(self):
        self.check([0, 0, 0], [0, 1, 2])
        self.check([0] * 60, list(range(60)))

    def test_all_levels_one_odd_number(self):
        for level in (1, 3, 5, 7, 9):
            self.check([level] * 3, [2, 1, 0])
            self.check([level] * 60, list(range(59, -1, -1)))

    def test_all_levels_one_even_number(self):
        for level in (2, 4, 6, 8):
            self.check([level] * 3, [0, 1, 2])
            self.check([level] * 60, list(range(60)))

    def test_two_levels(self):
        self.check([0, 1, 1, 0], [0, 2, 1, 3])
        self.check([1, 1, 0, 1, 1], [1, 0, 2, 4, 3])
        self.check([1, 1, 2, 2, 1], [4, 2, 3, 1, 0])
        self.check([1, 2], [1, 0])
        self.check([2, 1], [1, 0])

    def test_a_row_that_rises_and_falls_within_another(self):
        self.check([0, 1, 2, 3, 2, 1, 0], [0, 5, 2, 3, 4, 1, 6])
        self.check([1, 2, 3, 3, 2, 1], [5, 1, 3, 2, 4, 0])

    def test_several_rows_within_one(self):
        self.check([1, 2, 2, 1, 2, 2, 1], [6, 4, 5, 3, 1, 2, 0])

    def test_steps_of_more_than_one(self):
        self.check([0, 9, 9, 0], [0, 2, 1, 3])
        self.check([0, 8, 8, 0], [0, 1, 2, 3])
        self.check([1, 4, 4, 1], [3, 1, 2, 0])
        self.check([2, 5, 5, 0, 7, 9, 1], [0, 2, 1, 3, 6, 5, 4])

    def test_all_levels_from_zero_to_nine(self):
        self.check(list(range(10)), [0, 2, 4, 6, 8, 9, 7, 5, 3, 1])
        self.check(list(range(9, -1, -1)), [8, 6, 4, 2, 0, 1, 3, 5, 7, 9])

    def test_sixty_levels(self):
        self.check([0, 1, 1] * 20, [k for n in range(0, 60, 3) for k in (n, n + 2, n + 1)])
        self.check([1] * 20 + [2] * 20 + [1] * 20,
                   list(range(59, 39, -1)) + list(range(20, 40)) + list(range(19, -1, -1)))

    def test_somewhat_beyond_the_bounds(self):
        self.check([1] * 61, list(range(60, -1, -1)))
        self.check([0] * 300, list(range(300)))
        self.check([10, 10], [0, 1])
        self.check([11, 11, 0], [1, 0, 2])
        self.check([0, 12, 13, 13, 12], [0, 1, 3, 2, 4])
        row = [k * k % 13 for k in range(80)]
        self.check(row, reference.order(row))

    def test_word_by_word(self):
        for row in rows():
            self.check(row, reference.order(row))


class SeenAt(unittest.TestCase):
    def test_by_hand(self):
        self.assertEqual(seen_at([]), [])
        self.assertEqual(seen_at([7]), [0])
        self.assertEqual(seen_at([0, 1, 1, 0]), [0, 2, 1, 3])
        self.assertEqual(seen_at([1, 1, 2, 2, 1]), [4, 3, 1, 2, 0])
        self.assertEqual(seen_at([1, 2, 2]), [2, 0, 1])
        self.assertEqual(order([1, 2, 2]), [1, 2, 0])

    def test_order_and_seen_at_turn_each_other_about(self):
        for row in rows():
            seen = seen_at(row)
            told = order(row)
            self.assertEqual([told[place] for place in seen], list(range(len(row))), row)
            self.assertEqual([seen[place] for place in told], list(range(len(row))), row)

    def test_somewhat_beyond_the_bounds(self):
        self.assertEqual(seen_at([1] * 61), list(range(60, -1, -1)))
        self.assertEqual(seen_at([11, 12, 12]), [2, 0, 1])


class View(unittest.TestCase):
    def check(self, text, base, told):
        self.assertEqual(view(text, base), told, (text, base))

    def test_empty_text(self):
        self.check("", 0, "")
        self.check("", 1, "")

    def test_one_sign(self):
        for sign in "aA1.{[|":
            self.check(sign, 0, sign)
            self.check(sign, 1, sign)

    def test_both_bases(self):
        self.check("abc DEF", 0, "abc FED")
        self.check("abc DEF", 1, "FED abc")

    def test_figures(self):
        self.check("DEF 12.", 0, "12 FED.")
        self.check("12 34", 1, "34 12")

    def test_stretches_within_one_another(self):
        self.check("a[B{c1|D|e", 0, "a[D|c1{B|e")
        self.check("A{b[C D|e|F", 1, "F|b[D C|e{A")

    def test_east_text_with_base_east_is_seen_as_it_is_written(self):
        for text in ("abc", "a1.b 2-c", "12.34", ". ,", "xyz: 1, 2 = (3)!"):
            self.check(text, 0, text)

    def test_west_text_with_base_west_is_seen_backwards(self):
        for text in ("ABC", "A.B -C", ". ,", "XYZ: (A), B!"):
            self.check(text, 1, text[::-1])

    def test_sixty_signs_and_more(self):
        for count in (60, 61, 80):
            self.check("a" * count, 0, "a" * count)
            self.check("A" + "." * (count - 2) + "B", 1, "B" + "." * (count - 2) + "A")

    def test_by_the_order_of_its_levels(self):
        for row in itertools.product("aB1.[{|", repeat=4):
            text = "".join(row)
            for base in (0, 1):
                told = order(levels_of(text, base))
                self.check(text, base, "".join(text[place] for place in told))

    def test_word_by_word(self):
        signs = "aZ1{ .B[|9x|-C{0[|"
        for step in range(1, 200):
            text = "".join(signs[(k * k * step + k * 7 + step) * 31 // 5 % len(signs)] for k in range(60))
            for base in (0, 1):
                self.check(text, base, reference.view(text, base))


class WhatHoldsOfTheOrder(unittest.TestCase):
    def test_each_place_stands_in_it_once(self):
        for row in rows():
            self.assertEqual(sorted(order(row)), list(range(len(row))), row)

    def test_the_seen_levels_turned_by_their_own_order(self):
        for row in rows():
            seen = order(row)
            again = order([row[place] for place in seen])
            self.assertEqual([seen[place] for place in again], list(range(len(row))), row)

    def test_neighbours_of_a_level_or_more_stay_neighbours(self):
        for row in rows():
            seen = seen_at(row)
            for least in range(11):
                for places in rows_of_neighbours(row, least):
                    there = sorted(seen[place] for place in places)
                    self.assertEqual(there, list(range(there[0], there[0] + len(there))), (row, least))

    def test_all_levels_one_more(self):
        for row in rows():
            self.assertEqual(order([level + 1 for level in row]), order(row)[::-1], row)


class WhatIsHandedInAndTold(unittest.TestCase):
    def test_the_row_that_was_handed_in_is_as_it_was(self):
        for tell in (order, seen_at):
            for row in ([], [3], [0, 1, 2, 1, 0], [1] * 60):
                kept = list(row)
                self.assertIsNot(tell(row), row)
                self.assertEqual(row, kept)

    def test_the_row_may_be_changed_later(self):
        for tell in (order, seen_at):
            row = [0, 1, 1, 2]
            told = tell(row)
            kept = list(told)
            row[0] = 5
            row.append(1)
            self.assertEqual(told, kept)
            self.assertEqual(tell([0, 1, 1, 2]), kept)
            self.assertEqual(tell(row), getattr(reference, tell.__name__)(row))

    def test_lists_are_the_askers_own(self):
        for tell in (order, seen_at):
            for row in ([], [0], [0, 1, 1, 2], [0, 0, 0]):
                first = tell(row)
                kept = list(first)
                second = tell(row)
                self.assertIsNot(first, second)
                first.append("more")
                first[0] = "changed"
                self.assertEqual(second, kept)
                self.assertEqual(tell(row), kept)


if __name__ == "__main__":
    unittest.main()
