import inspect
import itertools
import unittest

import reference
from turnscript.stretches import grounds, kind, stretches


def texts_of(signs, longest):
    for length in range(longest + 1):
        for row in itertools.product(signs, repeat=length):
            yield "".join(row)


class Interface(unittest.TestCase):
    def test_names_of_the_arguments(self):
        self.assertEqual(list(inspect.signature(kind).parameters), ["sign"])
        self.assertEqual(list(inspect.signature(stretches).parameters), ["text", "base"])
        self.assertEqual(list(inspect.signature(grounds).parameters), ["text", "base"])

    def test_kinds_of_the_answers(self):
        for told in (stretches("a{1|", 1), grounds("a{1|", 1)):
            self.assertIs(type(told), list)
            self.assertEqual({type(number) for number in told}, {int})


class Kinds(unittest.TestCase):
    def test_every_sign(self):
        expected = dict.fromkeys("abcdefghijklmnopqrstuvwxyz", "east")
        expected.update(dict.fromkeys("ABCDEFGHIJKLMNOPQRSTUVWXYZ", "west"))
        expected.update(dict.fromkeys("0123456789", "figure"))
        expected.update({"{": "open", "[": "open", "|": "close"})
        expected.update(dict.fromkeys(" !\"#$&'()*+,-./:;<=>?@\\]^_`}~", "between"))
        signs = [chr(code) for code in range(ord(" "), ord("~") + 1) if chr(code) != "%"]
        self.assertEqual(len(signs), 94)
        self.assertEqual({sign: kind(sign) for sign in signs}, expected)

    def test_ends_of_the_rows_and_their_neighbours(self):
        self.assertEqual([kind(s) for s in "`az{"], ["between", "east", "east", "open"])
        self.assertEqual([kind(s) for s in "@AZ["], ["between", "west", "west", "open"])
        self.assertEqual([kind(s) for s in "/09:"], ["between", "figure", "figure", "between"])

    def test_neighbours_of_openers_and_closer(self):
        self.assertEqual([kind(s) for s in "z{|}~"], ["east", "open", "close", "between", "between"])
        self.assertEqual([kind(s) for s in "Z[\\]"], ["west", "open", "between", "between"])


class Stretches(unittest.TestCase):
    def check(self, text, base, numbers, found):
        self.assertEqual(stretches(text, base), numbers, (text, base))
        self.assertEqual(grounds(text, base), found, (text, base))

    def test_empty_text(self):
        self.check("", 0, [], [0])
        self.check("", 1, [], [1])

    def test_no_openers(self):
        self.check("aB 1.", 0, [0, 0, 0, 0, 0], [0])
        self.check("aB 1.", 1, [0, 0, 0, 0, 0], [1])

    def test_opener_and_closer_stand_outside(self):
        self.check("a{b|c", 0, [0, 0, 1, 0, 0], [0, 2])
        self.check("a[b|c", 1, [0, 0, 1, 0, 0], [1, 3])
        self.check("{[a||b", 0, [0, 1, 2, 1, 0, 0], [0, 2, 3])

    def test_grounds_that_openers_ask_for(self):
        self.check("{", 0, [0], [0, 2])
        self.check("[", 0, [0], [0, 1])
        self.check("{", 1, [0], [1, 2])
        self.check("[", 1, [0], [1, 3])
        self.check("[{", 0, [0, 1], [0, 1, 2])
        self.check("[[", 0, [0, 1], [0, 1, 3])
        self.check("{{", 1, [0, 1], [1, 2, 4])
        self.check("{[", 1, [0, 1], [1, 2, 3])

    def test_all_grounds_up_to_six(self):
        self.check("[{[{[{x", 0, [0, 1, 2, 3, 4, 5, 6], [0, 1, 2, 3, 4, 5, 6])
        self.check("{[{[{x", 1, [0, 1, 2, 3, 4, 5], [1, 2, 3, 4, 5, 6])

    def test_openers_that_would_come_above_six_open_none(self):
        self.check("{{{{x", 0, [0, 1, 2, 3, 3], [0, 2, 4, 6])
        self.check("{{{[x", 0, [0, 1, 2, 3, 3], [0, 2, 4, 6])
        self.check("[[[[x", 0, [0, 1, 2, 3, 3], [0, 1, 3, 5])
        self.check("[[[x", 1, [0, 1, 2, 2], [1, 3, 5])
        self.check("[[{x", 1, [0, 1, 2, 3], [1, 3, 5, 6])

    def test_closer_closes_an_opener_that_opened_none_and_nothing_else(self):
        self.check("{{{[x|y|z", 0, [0, 1, 2, 3, 3, 3, 3, 2, 2], [0, 2, 4, 6])

    def test_several_openers_that_opened_none(self):
        self.check("{{{{[{x|||y|z", 0, [0, 1, 2, 3, 3, 3, 3, 3, 3, 3, 3, 2, 2], [0, 2, 4, 6])
        self.check("{{{{|[|x|y", 0, [0, 1, 2, 3, 3, 3, 3, 3, 2, 2], [0, 2, 4, 6])

    def test_stretch_opened_behind_an_opener_that_opened_none(self):
        self.check("[[[[{x|y|z|w", 0, [0, 1, 2, 3, 3, 4, 3, 3, 3, 3, 2, 2], [0, 1, 3, 5, 6])

    def test_openers_that_opened_none_within_and_without(self):
        # at ground 5 one opens none, then at ground 6 two more do
        text = "[[[[{[{x||a|b|c|d"
        numbers = [0, 1, 2, 3, 3, 4, 4, 4, 4, 4, 4, 3, 3, 3, 3, 2, 2]
        self.check(text, 0, numbers, [0, 1, 3, 5, 6])

    def test_closer_where_only_stretch_0_is_open(self):
        self.check("|a||", 0, [0, 0, 0, 0], [0])
        self.check("|a||", 1, [0, 0, 0, 0], [1])
        self.check("{a||b", 0, [0, 1, 0, 0, 0], [0, 2])

    def test_closer_that_closed_nothing_is_not_kept_for_later(self):
        self.check("||{a|", 0, [0, 0, 0, 1, 0], [0, 2])

    def test_numbers_go_on_in_the_order_of_opening(self):
        numbers = [0, 1, 0, 0, 2, 0, 0, 3, 3, 4, 3, 0, 0]
        self.check("{a|[b|{c[d||e", 0, numbers, [0, 2, 1, 2, 3])

    def test_other_brackets_neither_open_nor_close(self):
        self.check("{a}b]c|d", 0, [0, 1, 1, 1, 1, 1, 0, 0], [0, 2])

    def test_sixty_signs(self):
        self.check("{a|" * 20, 0, [n for k in range(1, 21) for n in (0, k, 0)], [0] + [2] * 20)
        numbers = [0, 1, 2] + [3] * 27 + [3] * 27 + [2, 1, 0]
        self.check("{" * 30 + "|" * 30, 0, numbers, [0, 2, 4, 6])
        self.check("{" * 30 + "|" * 30, 1, numbers, [1, 2, 4, 6])

    def test_texts_beyond_sixty_signs(self):
        for count in (61, 75, 300):
            self.check("x" * count, 1, [0] * count, [1])
        self.check("[a|" * 40, 1, [n for k in range(1, 41) for n in (0, k, 0)], [1] + [3] * 40)
        numbers = [0, 1, 2] + [3] * 197 + [3] * 197 + [2, 1, 0]
        self.check("[" * 200 + "|" * 200, 0, numbers, [0, 1, 3, 5])

    def test_all_short_texts_word_by_word(self):
        deep = ["", "{{{", "[[[", "[[[[{", "[{[{["]
        for start, rest, base in itertools.product(deep, texts_of("{[|", 7), (0, 1)):
            self.check(start + rest, base, *reference.stand(start + rest, base))


class WhatIsTold(unittest.TestCase):
    def test_lists_are_the_askers_own(self):
        for tell in (stretches, grounds):
            for base in (0, 1):
                first = tell("a{b|[c", base)
                kept = list(first)
                second = tell("a{b|[c", base)
                self.assertIsNot(first, second)
                first.append(99)
                first[0] = 77
                self.assertEqual(second, kept)
                second.clear()
                self.assertEqual(tell("a{b|[c", base), kept)

    def test_lists_for_the_empty_text(self):
        for tell in (stretches, grounds):
            kept = list(tell("", 1))
            tell("", 1).append(5)
            self.assertEqual(tell("", 1), kept)


if __name__ == "__main__":
    unittest.main()
