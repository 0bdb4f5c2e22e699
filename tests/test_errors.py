import unittest

from turnscript.errors import NoCut, NoMark, TurnError


class ErrorClasses(unittest.TestCase):
    def test_any_refusal_is_a_value_error(self):
        self.assertEqual(TurnError.__bases__, (ValueError,))

    def test_each_stands_straight_under_turn_error(self):
        self.assertEqual(NoMark.__bases__, (TurnError,))
        self.assertEqual(NoCut.__bases__, (TurnError,))

    def test_neither_stands_beneath_the_other(self):
        self.assertFalse(issubclass(NoMark, NoCut))
        self.assertFalse(issubclass(NoCut, NoMark))

    def test_they_bear_their_names(self):
        self.assertEqual([c.__name__ for c in (TurnError, NoMark, NoCut)], ["TurnError", "NoMark", "NoCut"])

    def test_they_can_be_raised_with_words_and_without(self):
        for error in (TurnError, NoMark, NoCut):
            with self.assertRaises(ValueError):
                raise error("words")
            with self.assertRaises(TurnError):
                raise error()


if __name__ == "__main__":
    unittest.main()
