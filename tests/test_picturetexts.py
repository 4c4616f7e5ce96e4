import copy
import random
import re
import unittest

from samples import BENT, BRAID, LOOSE, ODD, STOCKS, behind_layer, chance_picture, same
from slidewires.errors import NoFind, NoFit, NoSlide, NoText, TooWide, WireError
from slidewires.picturetexts import read_picture, show_picture

SAMPLES = (
    (LOOSE, "a b | 0 f | 1 new | 0 cross", (("a", "b"), ((0, ("box", "f")), (1, ("box", "new")), (0, ("cross",))))),
    (LOOSE, "-", ((), ())),
    (LOOSE, "a", (("a",), ())),
    (LOOSE, "b a b", (("b", "a", "b"), ())),
    (LOOSE, "- | 0 dot", ((), ((0, ("box", "dot")),))),
    (BENT, "- | 0 cup b | 1 cup a | 1 cross | 1 cap", (
        (), ((0, ("cup", "b")), (1, ("cup", "a")), (1, ("cross",)), (1, ("cap",))))),
    (BENT, "a a | 0 cap", (("a", "a"), ((0, ("cap",)),))),
    (BENT, "a | 1 cup b | 0 g", (("a",), ((1, ("cup", "b")), (0, ("box", "g"))))),
    (BRAID, "a b a | 0 over | 1 under", (("a", "b", "a"), ((0, ("over",)), (1, ("under",))))),
    (BRAID, "-", ((), ())),
    (LOOSE, " ".join("a" * 13) + " | 11 cross | 10 same | 13 dot", (
        ("a",) * 13, ((11, ("cross",)), (10, ("box", "same")), (13, ("box", "dot"))))),
)
FIRST = re.compile(r"(-|[a-z]+( [a-z]+)*)\Z")
LAYER = re.compile(r"(0|[1-9][0-9]*) (?:(cross|cap|over|under)|(cup) ([a-z]+)|([a-z]+))\Z")


def is_written(stock, text):
    """Whether a picture is written so, told anew: by forms, and walked by the document."""
    parts = text.split(" | ")
    if not FIRST.match(parts[0]):
        return False
    wires = () if parts[0] == "-" else tuple(parts[0].split(" "))
    if not set(wires) <= set(stock[1]):
        return False
    for part in parts[1:]:
        found = LAYER.match(part)
        if not found or len(found[1]) > 9:
            return False
        step = (found[2],) if found[2] else ("cup", found[4]) if found[3] else ("box", found[5])
        wires = behind_layer(stock, wires, int(found[1]), step)
        if wires is None:
            return False
    return True


class PictureTexts(unittest.TestCase):
    def refused(self, stock, thing):
        before = copy.deepcopy(thing)
        for _ in range(2):
            with self.assertRaises(NoText, msg=thing) as caught:
                read_picture(stock, thing)
            self.assertIsInstance(caught.exception, WireError)
            self.assertIsInstance(caught.exception, ValueError)
            self.assertNotIsInstance(caught.exception, (NoFit, NoSlide, NoFind, TooWide))
        self.assertTrue(same(thing, before))

    def judged(self, stock, text):
        if is_written(stock, text):
            self.assertEqual(show_picture(stock, read_picture(stock, text)), text)
        else:
            self.refused(stock, text)

    def test_as_written(self):
        for stock, text, picture in SAMPLES:
            self.assertTrue(is_written(stock, text), text)
            for _ in range(2):
                self.assertTrue(same(read_picture(stock, text), picture), text)
                self.assertEqual(show_picture(stock, picture), text)

    def test_read_again_it_is_the_picture(self):
        chance = random.Random(7)
        texts = {}
        for stock in STOCKS:
            for _ in range(300):
                picture, below = chance_picture(stock, chance, most_layers=20)
                text = show_picture(stock, picture)
                self.assertTrue(is_written(stock, text))
                self.assertTrue(same(read_picture(stock, text), picture))
                self.assertEqual(texts.setdefault(text, picture), picture)

    def test_a_box_called_like_a_sort_or_a_row(self):
        stock = ("loose", ("a", "box"), (("a", ("box",), ("a",)), ("box", (), ("box",))))
        picture = (("box",), ((0, ("box", "a")), (1, ("box", "box"))))
        self.assertEqual(show_picture(stock, picture), "box | 0 a | 1 box")
        self.assertTrue(same(read_picture(stock, "box | 0 a | 1 box"), picture))

    def test_noughts_ahead_and_other_figures(self):
        for place in ("00", "01", "000", "-0", "+0", "-1", "0.0", "1_0", "x", "", "0x0", " 0", "0 ", "a"):
            self.refused(LOOSE, f"a b | {place} f")
            self.refused(LOOSE, f"a b | {place} dot")
        self.refused(LOOSE, " ".join("a" * 13) + " | 011 cross")

    def test_steps_of_another_manner(self):
        for stock, step in ((LOOSE, "cup a"), (LOOSE, "cap"), (LOOSE, "over"), (LOOSE, "under"), (BENT, "over"),
                            (BENT, "under"), (BRAID, "cross"), (BRAID, "cup a"), (BRAID, "cap"), (BRAID, "dot")):
            self.refused(stock, f"a a | 0 {step}")

    def test_layers_that_do_not_fit(self):
        for stock, text in ((LOOSE, "b a | 0 f"), (LOOSE, "a b | 1 f"), (LOOSE, "a | 0 cross"),
                            (LOOSE, "a b | 1 cross"),
                            (LOOSE, "a | 2 new"), (LOOSE, "a | 0 zz"), (LOOSE, "zz"), (LOOSE, "f"),
                            (BENT, "a b | 0 cap"),
                            (BENT, "a | 2 cup a"), (BENT, "a | 0 cup zz"), (BENT, "a | 0 cup"), (BENT, "a a | 0 cap a"),
                            (BRAID, "a | 0 over"), (LOOSE, "a b | 0 f a"), (LOOSE, "a b | 0 box f"), (LOOSE, "a b | f"),
                            (LOOSE, "a b | 0"), (LOOSE, "a b | 0 f | 0 f"), (LOOSE, "a b 0 f"), (LOOSE, "a b || 0 f"),
                            (LOOSE, "a b|0 f"), (LOOSE, "a b | | 0 f"), (LOOSE, "| 0 dot"), (LOOSE, " | 0 dot"),
                            (LOOSE, "- a"), (LOOSE, "a -"), (LOOSE, "- -"), (LOOSE, ""), (LOOSE, " "), (LOOSE, "\n")):
            self.refused(stock, text)

    def test_signs_exchanged_put_in_taken_out(self):
        for stock, text, picture in SAMPLES:
            for i in range(len(text) + 1):
                self.judged(stock, text[:i] + text[i + 1:])
                for sign in " |-01ab\nA>c":
                    self.judged(stock, text[:i] + sign + text[i:])
                    self.judged(stock, text[:i] + sign + text[i + 1:])

    def test_words_and_layers_exchanged_put_in_taken_out(self):
        words = ("a", "0", "1", "|", "-", "f", "cross", "cup", "cap", "over", "")
        for stock, text, picture in SAMPLES:
            for parting, others in ((" ", words), (" | ", ("0 f", "1 cross", "0 cup a", "0 over", "0 dot", "a", ""))):
                parts = text.split(parting)
                for i in range(len(parts) + 1):
                    self.judged(stock, parting.join(parts[:i] + parts[i + 1:]))
                    self.judged(stock, parting.join(parts[:i] + parts[i:i + 1] + parts[i:]))
                    for other in others:
                        self.judged(stock, parting.join(parts[:i] + [other] + parts[i:]))
                        self.judged(stock, parting.join(parts[:i] + [other] + parts[i + 1:]))
                    for j in range(i):
                        turned = parts[:j] + parts[i:i + 1] + parts[j + 1:i] + parts[j:j + 1] + parts[i + 1:]
                        self.judged(stock, parting.join(turned))

    def test_blanks_and_line_ends(self):
        for stock, text, picture in SAMPLES:
            for spoiled in (" " + text, text + " ", "\n" + text, text + "\n", text + " |", text + " | ", "| " + text):
                self.refused(stock, spoiled)

    def test_places_of_many_figures(self):
        for many in (17, 18, 19, 30, 639, 4299, 4300, 4301, 9000):
            for step in ("dot", "cross", "f"):
                self.refused(LOOSE, "a b | " + "1" * many + " " + step)
                self.refused(LOOSE, "a b | " + "0" * many + " " + step)

    def test_however_great(self):
        above = ("a",) * 1200
        picture = (above, ((1198, ("cross",)), (0, ("cross",)), (1200, ("box", "new")), (1201, ("box", "dot"))))
        self.assertTrue(same(read_picture(LOOSE, show_picture(LOOSE, picture)), picture))
        long = (("a", "b"), ((0, ("cross",)),) * 1000)
        self.assertTrue(same(read_picture(BENT, show_picture(BENT, long)), long))

    def test_what_is_no_text(self):
        for stock in STOCKS:
            for thing in ODD + (("a b", "0 f"), (("a",), ()), ["a"]):
                # Of the texts among them one is a picture without layers.
                if not same(thing, "a b"):
                    self.refused(stock, thing)
