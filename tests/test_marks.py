import inspect
import itertools
import unittest

import reference
from turnscript.errors import NoCut, NoMark, TurnError
from turnscript.marks import carets, pieces

FAR = 10 ** 30
VERY_FAR = 10 ** 5000


def rows():
    for length in range(6):
        yield from (list(row) for row in itertools.product(range(4), repeat=length))
    for step in range(1, 40):
        yield [(k * k * step + k * 7 + step) * 31 // 5 % (step % 10 + 1) for k in range(17)]


def marks(row):
    return itertools.combinations_with_replacement(range(len(row) + 1), 2)


class Interface(unittest.TestCase):
    def test_names_of_the_arguments(self):
        self.assertEqual(list(inspect.signature(pieces).parameters), ["levels", "first", "behind"])
        self.assertEqual(list(inspect.signature(carets).parameters), ["levels"])

    def test_kinds_of_the_answers(self):
        for told in (pieces([1, 1, 0, 1, 1], 1, 4), carets([0, 1, 2])):
            self.assertIs(type(told), list)
            self.assertEqual({type(one) for one in told}, {tuple})
            self.assertEqual({len(one) for one in told}, {2})
        self.assertIs(type(pieces([], 0, 0)), list)
        self.assertEqual({type(n) for one in pieces([1, 0, 1], 0, 2) for n in one}, {int})


class Pieces(unittest.TestCase):
    def check(self, row, first, behind, told):
        self.assertEqual(pieces(row, first, behind), told, (row, first, behind))

    def test_mark_with_no_place(self):
        self.check([], 0, 0, [])
        for row in ([0], [1], [0, 1, 2, 1], [3] * 60):
            for place in range(len(row) + 1):
                self.check(row, place, place, [])

    def test_mark_with_one_place(self):
        self.check([0], 0, 1, [(0, 1)])
        self.check([1, 1, 1], 0, 1, [(2, 3)])
        self.check([1, 2, 2, 1], 1, 2, [(1, 2)])
        self.check([1, 2, 2, 1], 3, 4, [(0, 1)])

    def test_mark_with_all_places(self):
        self.check([0, 1, 2, 1, 0], 0, 5, [(0, 5)])
        self.check([1, 3, 0, 9, 2], 0, 5, [(0, 5)])
        self.check([1] * 60, 0, 60, [(0, 60)])

    def test_one_piece(self):
        self.check([0] * 5, 1, 4, [(1, 4)])
        self.check([1] * 5, 0, 2, [(3, 5)])
        self.check([0, 1, 1, 0], 1, 3, [(1, 3)])
        self.check([1, 2, 2, 1], 1, 4, [(0, 3)])

    def test_several_pieces_from_the_left(self):
        self.check([0, 0, 1, 1, 1, 0], 1, 4, [(1, 2), (3, 5)])
        self.check([1, 1, 0, 1, 1], 1, 4, [(0, 1), (2, 3), (4, 5)])
        self.check([1, 2, 2], 0, 2, [(0, 1), (2, 3)])
        self.check([1, 2, 2, 1, 0, 1, 2, 2, 1], 2, 7, [(0, 1), (2, 3), (4, 5), (6, 7), (8, 9)])

    def test_they_hold_the_seen_places_of_the_mark(self):
        for row in rows():
            seen = reference.seen_at(row)
            for first, behind in marks(row):
                told = pieces(row, first, behind)
                there = [v for start, end in told for v in range(start, end)]
                self.assertEqual(there, sorted(seen[first:behind]), (row, first, behind))

    def test_no_two_touch_and_none_is_empty(self):
        for row in rows():
            for first, behind in marks(row):
                edges = [edge for piece in pieces(row, first, behind) for edge in piece]
                self.assertEqual(edges, sorted(set(edges)), (row, first, behind))

    def test_no_more_than_one_and_twice_the_greatest_level(self):
        for row in rows():
            for first, behind in marks(row):
                most = 1 + 2 * max(row, default=0)
                self.assertLessEqual(len(pieces(row, first, behind)), most, (row, first, behind))

    def test_somewhat_beyond_the_bounds(self):
        self.check([1] * 61, 0, 2, [(59, 61)])
        self.check([0] * 300, 250, 300, [(250, 300)])
        self.check([0, 11, 11, 11], 0, 2, [(0, 1), (3, 4)])

    def test_word_by_word(self):
        for row in rows():
            for first, behind in marks(row):
                self.check(row, first, behind, reference.pieces(row, first, behind))


class NoMarks(unittest.TestCase):
    def refused(self, row, first, behind):
        with self.assertRaises(TurnError) as caught:
            pieces(row, first, behind)
        self.assertIs(type(caught.exception), NoMark)
        self.assertIsInstance(caught.exception, ValueError)
        self.assertNotIsInstance(caught.exception, NoCut)

    def test_first_below_zero(self):
        for behind in (-2, -1, 0, 1, 3):
            self.refused([0, 1, 0], -1, behind)

    def test_behind_ahead_of_first(self):
        self.refused([0, 1, 0], 1, 0)
        self.refused([0, 1, 0], 3, 2)
        self.refused([0, 1, 0], 2, -1)

    def test_behind_beyond_the_levels(self):
        self.refused([0, 1, 0], 0, 4)
        self.refused([0, 1, 0], 3, 4)
        self.refused([0, 1, 0], 4, 4)
        self.refused([0, 1, 0], 4, 3)

    def test_numbers_far_off(self):
        for row in ([], [0], [0, 1, 0]):
            for far in (FAR, VERY_FAR):
                self.refused(row, 0, far)
                self.refused(row, -far, 0)
                self.refused(row, far, far)
                self.refused(row, -far, far)
                self.refused(row, far, -far)
                self.refused(row, -far, -far)

    def test_row_of_no_level(self):
        for first, behind in ((0, 1), (1, 1), (1, 0), (-1, 0), (-1, -1), (0, -1)):
            self.refused([], first, behind)

    def test_all_places_round_a_row(self):
        for count in range(4):
            for first, behind in itertools.product(range(-3, 8), repeat=2):
                if not 0 <= first <= behind <= count:
                    self.refused([1] * count, first, behind)

    def test_nothing_is_changed_by_a_refusal(self):
        row = [0, 1, 1]
        self.refused(row, 2, 1)
        self.assertEqual(row, [0, 1, 1])
        self.assertEqual(pieces(row, 1, 2), [(2, 3)])


class Carets(unittest.TestCase):
    def check(self, row, told):
        self.assertEqual(carets(row), told, row)

    def test_no_level(self):
        self.check([], [(None, None)])

    def test_one_even_level(self):
        for level in (0, 2, 4, 6, 8):
            self.check([level], [(None, 0), (1, None)])

    def test_one_odd_level(self):
        for level in (1, 3, 5, 7, 9):
            self.check([level], [(None, 1), (0, None)])

    def test_several_levels(self):
        self.check([0, 0], [(None, 0), (1, 1), (2, None)])
        self.check([1, 1], [(None, 2), (1, 1), (0, None)])
        self.check([0, 1], [(None, 0), (1, 2), (1, None)])
        self.check([0, 1, 1, 0], [(None, 0), (1, 3), (2, 2), (1, 3), (4, None)])
        self.check([1, 2, 2, 1], [(None, 4), (3, 1), (2, 2), (3, 1), (0, None)])

    def test_none_at_the_two_ends_and_nowhere_else(self):
        for row in rows():
            told = carets(row)
            self.assertEqual(len(told), len(row) + 1, row)
            self.assertEqual([p for p, faces in enumerate(told) if faces[0] is None], [0], row)
            self.assertEqual([p for p, faces in enumerate(told) if faces[1] is None], [len(row)], row)

    def test_both_faces_one_between_signs_of_one_level(self):
        for row in rows():
            told = carets(row)
            for place in range(1, len(row)):
                if row[place - 1] == row[place]:
                    self.assertEqual(told[place][0], told[place][1], (row, place))

    def test_sixty_levels_and_somewhat_beyond(self):
        for count in (60, 61, 300):
            self.check([0] * count, [(None, 0)] + [(p, p) for p in range(1, count)] + [(count, None)])
            self.check([1] * count, [(None, count)] + [(p, p) for p in range(count - 1, 0, -1)] + [(0, None)])
        self.check([11, 12], [(None, 2), (1, 0), (1, None)])

    def test_word_by_word(self):
        for row in rows():
            self.check(row, reference.carets(row))


class WhatIsHandedInAndTold(unittest.TestCase):
    def tellers(self):
        return (lambda row: pieces(row, 0, len(row) // 2), carets)

    def test_the_row_that_was_handed_in_is_as_it_was(self):
        for tell in self.tellers():
            for row in ([], [3], [0, 1, 2, 1, 0], [1] * 60):
                kept = list(row)
                tell(row)
                self.assertEqual(row, kept)

    def test_the_row_may_be_changed_later(self):
        for tell in self.tellers():
            row = [0, 1, 1, 2]
            told = tell(row)
            kept = list(told)
            row[0] = 5
            row.append(1)
            self.assertEqual(told, kept)
            self.assertEqual(tell([0, 1, 1, 2]), kept)

    def test_lists_are_the_askers_own(self):
        for tell in self.tellers():
            for row in ([], [0], [0, 1, 1, 2]):
                first = tell(row)
                kept = list(first)
                second = tell(row)
                self.assertIsNot(first, second)
                first.append("more")
                first[0] = "changed"
                self.assertEqual(second, kept)
                self.assertEqual(tell(row), kept)


if __name__ == "__main__":
    unittest.main()
