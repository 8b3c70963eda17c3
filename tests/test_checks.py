import unittest

from fewhands.checks import HUGE, is_whole, is_word
from values import many_kinds


class TestChecks(unittest.TestCase):
    def test_words(self):
        for value in ("a", "z", "p", "self", "abcdefgh", "zzzzzzzz"):
            self.assertIs(is_word(value), True, value)

    def test_no_words(self):
        for value in ("", "abcdefghi", "A", "aB", "a1", "1", "a b", " a", "a\n", "_a", "a-", "`", "{",
                      "\u00e9", "\u0430", "\u00df", "\uff41", "a\u0301", "\x00"):
            self.assertIs(is_word(value), False, ascii(value))

    def test_other_kinds_are_no_words(self):
        for value in many_kinds():
            if not isinstance(value, str):
                self.assertIs(is_word(value), False, repr(value))

    def test_whole_numbers(self):
        for value in (0, 1, HUGE - 1, HUGE):
            self.assertIs(is_whole(value, 0, HUGE), True, value)
        self.assertIs(is_whole(-3, -3, 3), True)
        self.assertEqual(HUGE, 1000000 ** 5)

    def test_no_whole_numbers(self):
        for value in (-1, HUGE + 1, True, False, None, "1", b"1", 1.0, (1,), [1], {1: 1}):
            self.assertIs(is_whole(value, 0, HUGE), False, repr(value))
        self.assertIs(is_whole(0, 1, 3), False)
        self.assertIs(is_whole(4, 1, 3), False)
