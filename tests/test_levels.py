import inspect
import itertools
import unittest

import reference
from turnscript.levels import levels, sides

NAMES = {"e": "east", "w": "west"}


class Interface(unittest.TestCase):
    def test_names_of_the_arguments(self):
        self.assertEqual(list(inspect.signature(sides).parameters), ["text", "base"])
        self.assertEqual(list(inspect.signature(levels).parameters), ["text", "base"])

    def test_kinds_of_the_answers(self):
        self.assertIs(type(sides("a.B1{", 0)), list)
        self.assertIs(type(levels("a.B1{", 0)), list)
        self.assertEqual({type(level) for level in levels("a.B1{", 0)}, {int})


class Sides(unittest.TestCase):
    def check(self, text, base, told):
        self.assertEqual(sides(text, base), [NAMES[t] for t in told], (text, base))

    def check_both(self, text, told):
        self.check(text, 0, told)
        self.check(text, 1, told)

    def test_empty_text(self):
        self.check_both("", "")

    def test_letters(self):
        self.check_both("abAzZB", "eeweww")

    def test_letters_within_stretches(self):
        self.check("{aA[aA", 0, "eeweew")
        self.check("[aA", 1, "wew")

    def test_figure_without_a_letter_ahead(self):
        self.check("1", 0, "e")
        self.check("1", 1, "w")
        self.check("1A", 0, "ew")
        self.check("1a", 1, "we")
        self.check("12 3", 1, "wwww")

    def test_figure_behind_a_letter(self):
        self.check_both("a1", "ee")
        self.check_both("A1", "ww")
        self.check_both("aA1", "eww")
        self.check_both("Aa1", "wee")
        self.check_both("A12", "www")

    def test_figure_with_signs_between_ahead(self):
        self.check("A. 1", 0, "wwww")
        self.check("a. 1", 1, "eeee")

    def test_figure_asks_its_own_stretch_alone(self):
        self.check("A{1|", 0, "weee")
        self.check("a[1|", 1, "ewww")
        self.check("A{b|1", 0, "wweww")
        self.check("a[B|1", 1, "eewee")
        self.check("[B|1", 0, "ewee")
        self.check("{b|{1|", 1, "wewwew")

    def test_figure_behind_a_closed_stretch_of_the_same_ground(self):
        self.check("{A|{1|", 0, "eweeee")

    def test_sign_between_with_letters_of_one_side(self):
        self.check_both("a.b", "eee")
        self.check_both("A.B", "www")
        self.check_both("A.-B", "wwww")

    def test_sign_between_with_letters_of_both_sides(self):
        self.check("a.B", 0, "eew")
        self.check("a.B", 1, "eww")
        self.check("A.b", 0, "wee")
        self.check("A.b", 1, "wwe")

    def test_the_nearest_ones_count(self):
        self.check("aB.Ca", 0, "ewwwe")
        self.check("Ba.cB", 1, "weeew")

    def test_sign_between_with_figures(self):
        self.check("1.2", 0, "eee")
        self.check("1.2", 1, "www")
        self.check("a1.b", 1, "eeee")
        self.check("A1.B", 0, "wwww")
        self.check("A1.2", 0, "wwww")
        self.check("a1.2", 1, "eeee")
        self.check("A1.b", 0, "wwee")
        self.check("A1.b", 1, "wwwe")
        self.check("1.A", 0, "eew")
        self.check("1.A", 1, "www")
        self.check("a.1", 1, "eee")

    def test_sign_between_with_none_ahead(self):
        self.check(".a", 0, "ee")
        self.check(".a", 1, "we")
        self.check(".A", 0, "ew")
        self.check(".A", 1, "ww")
        self.check(".1", 1, "ww")

    def test_sign_between_with_none_behind(self):
        self.check("a.", 0, "ee")
        self.check("a.", 1, "ew")
        self.check("A.", 0, "we")
        self.check("A.", 1, "ww")
        self.check("A1.", 0, "wwe")

    def test_sign_between_with_neither(self):
        self.check(". -", 0, "eee")
        self.check(". -", 1, "www")
        self.check("{.[.", 1, "weew")

    def test_sign_between_across_a_stretch_within(self):
        self.check("A.{bc|.B", 0, "wwweewww")
        self.check("a.[BC|.b", 1, "eeewweee")
        self.check("a.[BC|.B", 0, "eeewweew")
        self.check("A{1|.2", 0, "wwewww")

    def test_sign_between_asks_its_own_stretch_alone(self):
        self.check("A{.|B", 0, "wweww")
        self.check("a[.|b", 1, "eewee")

    def test_openers_and_closers_are_signs_between(self):
        self.check("A{|B", 0, "wwww")
        self.check("a[|b", 1, "eeee")
        self.check("A|B", 0, "www")
        self.check("A{B", 0, "wew")
        self.check("a{b|", 1, "ewew")

    def test_openers_that_open_none_and_their_closers(self):
        self.check("{{{A[B|C", 0, "eeewwwww")
        self.check("{{{{A|B", 0, "eeeewww")

    def test_sixty_signs(self):
        self.check("A.{b|." * 10, 0, "wwweww" * 9 + "weeeee")
        self.check("aB1.C-" * 10, 0, "ewwwwe" * 10)

    def test_texts_beyond_sixty_signs(self):
        for count in (61, 80, 300):
            self.check("A" + "." * (count - 2) + "B", 0, "w" * count)
            self.check("." * count, 1, "w" * count)


class Levels(unittest.TestCase):
    def check(self, text, base, told):
        self.assertEqual(levels(text, base), told, (text, base))

    def test_empty_text(self):
        self.check("", 0, [])
        self.check("", 1, [])

    def test_base_east(self):
        self.check("aA.b B-C", 0, [0, 1, 0, 0, 0, 1, 1, 1])

    def test_base_west(self):
        self.check("aA.b B-C", 1, [2, 1, 1, 2, 1, 1, 1, 1])

    def test_figures_on_the_base(self):
        self.check("1", 0, [0])
        self.check("1", 1, [2])
        self.check("a1", 0, [0, 0])
        self.check("A1", 0, [1, 2])
        self.check("a1", 1, [2, 2])
        self.check("A1", 1, [1, 2])

    def test_figures_and_letters_on_each_ground(self):
        self.check("[a1A2", 0, [0, 2, 2, 1, 2])
        self.check("{a1A2", 0, [0, 2, 2, 3, 4])
        self.check("[a1A2", 1, [1, 4, 4, 3, 4])
        self.check("{{a1A2", 0, [0, 2, 4, 4, 5, 6])
        self.check("[[a1A2", 1, [1, 3, 6, 6, 5, 6])
        self.check("{{{a1A2", 0, [0, 2, 4, 6, 6, 7, 8])

    def test_signs_between_on_each_ground(self):
        self.check("{A.B-c", 0, [0, 3, 3, 3, 2, 2])
        self.check("[a.b-C", 0, [0, 2, 2, 2, 1, 1])
        self.check("A1.2", 0, [1, 2, 1, 2])
        self.check("1.2", 1, [2, 1, 2])

    def test_across_a_stretch_within(self):
        self.check("A.{bc|.B", 0, [1, 1, 1, 2, 2, 1, 1, 1])
        self.check("a[B1|2", 1, [2, 2, 3, 4, 2, 2])

    def test_openers_and_closers(self):
        self.check("a{b|c", 0, [0, 0, 2, 0, 0])
        self.check("{{{{A|B", 0, [0, 2, 4, 6, 7, 7, 7])
        self.check("{[|", 1, [1, 2, 2])

    def test_sixty_signs(self):
        self.check("A1{b|." * 10, 1, [1, 2, 1, 2, 1, 1] * 10)
        self.check("{" * 30 + "|" * 30, 0, [0, 2, 4] + [6] * 54 + [4, 2, 0])

    def test_texts_beyond_sixty_signs(self):
        for count in (61, 80, 300):
            self.check("1" * count, 1, [2] * count)
            self.check("A" + "." * (count - 2) + "B", 0, [1] * count)


class WordByWord(unittest.TestCase):
    def check(self, text, base):
        self.assertEqual(sides(text, base), reference.sides(text, base), (text, base))
        self.assertEqual(levels(text, base), reference.levels(text, base), (text, base))

    def test_all_short_texts(self):
        for length in range(6):
            for row in itertools.product("aA1.{[|", repeat=length):
                self.check("".join(row), 0)
                self.check("".join(row), 1)

    def test_short_texts_of_one_stretch(self):
        for row in itertools.product("aA1.", repeat=6):
            self.check("".join(row), 0)
            self.check("".join(row), 1)

    def test_texts_in_deep_stretches(self):
        for start in ("{{{", "[[[", "[[[[{", "b.A{{[2"):
            for row in itertools.product("aA1.[|", repeat=4):
                self.check(start + "".join(row), 0)
                self.check(start + "".join(row), 1)

    def test_long_texts(self):
        signs = "aZ1{ .B[|9x|-C{0[|"
        for step in range(1, 200):
            text = "".join(signs[(k * k * step + k * 7 + step) * 31 // 5 % len(signs)] for k in range(66))
            self.check(text[:60], step % 2)
            self.check(text, step % 2)


class WhatIsTold(unittest.TestCase):
    def test_lists_are_the_askers_own(self):
        for tell in (sides, levels):
            for base in (0, 1):
                first = tell("a.B1{c|", base)
                kept = list(first)
                second = tell("a.B1{c|", base)
                self.assertIsNot(first, second)
                first[0] = "changed"
                first.append("more")
                self.assertEqual(second, kept)
                second.clear()
                self.assertEqual(tell("a.B1{c|", base), kept)

    def test_lists_for_the_empty_text(self):
        for tell in (sides, levels):
            tell("", 0).append(5)
            self.assertEqual(tell("", 0), [])


if __name__ == "__main__":
    unittest.main()
