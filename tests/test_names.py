import unittest

from samples import ODD, STEP_WORDS, WHOLE
from slidewires.names import is_name, is_whole


class Names(unittest.TestCase):
    def test_whole_numbers(self):
        for number in WHOLE:
            self.assertIs(is_whole(number), True)
        for odd in ODD[len(WHOLE):]:
            self.assertIs(is_whole(odd), False, odd)

    def test_names(self):
        for text in ("a", "z", "abcdefgh", "crosses", "cups", "ove", "box", "sort", "manner", "loose"):
            self.assertIs(is_name(text), True, text)

    def test_no_names(self):
        for text in STEP_WORDS + ("", "abcdefghi", "A", "aB", "a1", "a-", "-", ">", "|", "a b", " a", "a\n", "?", "~"):
            self.assertIs(is_name(text), False, text)
        for odd in ODD:
            self.assertIs(is_name(odd), False, odd)
