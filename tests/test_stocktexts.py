import copy
import itertools
import re
import unittest

from samples import BENT, BRAID, LOOSE, ODD, same
from slidewires.errors import NoFind, NoFit, NoSlide, NoText, TooWide, WireError
from slidewires.stocks import is_stock
from slidewires.stocktexts import read_stock, show_stock

FOUR = ("a",) * 4
FULL = ("bent", ("a", "b", "c", "d"), tuple((name, ("a", "b", "c", "d"), ("d", "a")) for name in "abcdefgh"))
CALLED_LIKE_ROWS = ("loose", ("sort", "box", "manner", "loose"), (("box", ("box",), ("sort",)), ("sort", (), ())))
STOCKS = (LOOSE, BENT, BRAID, FULL, CALLED_LIKE_ROWS, ("braid", ("a",), ()), ("bent", ("a", "b", "c", "d"), ()))
NAME = "(?!(?:cross|cup|cap|over|under)(?![a-z]))[a-z]{1,8}"
ROWS = re.compile(
    rf"manner (loose|bent|braid)((?:\nsort {NAME}){{1,4}})"
    rf"((?:\nbox {NAME}(?: {NAME}){{0,4}} >(?: {NAME}){{0,4}}){{0,8}})\Z"
)
SMALL = ("bent", ("a", "overt"), (("f", ("a", "overt"), ("a",)), ("gg", (), ()), ("h", ("a",), ())))


def is_written(text):
    """Whether a stock is written so, told anew by a form and what the form doesn't see."""
    found = ROWS.match(text)
    if not found:
        return False
    sorts = [row[5:] for row in found[2].split("\n")[1:]]
    boxes = [row[4:].split(" ") for row in found[3].split("\n")[1:]]
    names = [box[0] for box in boxes]
    feet = [word for box in boxes for word in box[1:] if word != ">"]
    if len(set(sorts)) < len(sorts) or len(set(names)) < len(names) or not set(feet) <= set(sorts):
        return False
    return found[1] != "braid" or not boxes


class StockTexts(unittest.TestCase):
    def refused(self, thing):
        before = copy.deepcopy(thing)
        for _ in range(2):
            with self.assertRaises(NoText, msg=thing) as caught:
                read_stock(thing)
            self.assertIsInstance(caught.exception, WireError)
            self.assertIsInstance(caught.exception, ValueError)
            self.assertNotIsInstance(caught.exception, (NoFit, NoSlide, NoFind, TooWide))
        self.assertTrue(same(thing, before))

    def judged(self, text):
        if is_written(text):
            self.assertTrue(is_stock(read_stock(text)))
            self.assertEqual(show_stock(read_stock(text)), text)
        else:
            self.refused(text)

    def test_as_written(self):
        self.assertEqual(show_stock(("loose", ("a",), ())), "manner loose\nsort a")
        self.assertEqual(
            show_stock(LOOSE),
            "manner loose\nsort a\nsort b\nbox f a b > a\nbox g a > b a\nbox new > a\nbox gone b >\nbox dot >\n"
            "box same a a > a a",
        )
        self.assertEqual(show_stock(BRAID), "manner braid\nsort a\nsort b")

    def test_read_again_it_is_the_stock(self):
        for stock in STOCKS:
            text = show_stock(stock)
            self.assertTrue(is_written(text))
            for _ in range(2):
                self.assertEqual(show_stock(stock), text)
                self.assertTrue(same(read_stock(text), stock))

    def test_unlike_stocks_have_unlike_texts(self):
        rows = [(), ("a",), ("b",), ("a", "b"), ("b", "a"), FOUR]
        boxes = [(name, above, below) for name in "fa" for above in rows for below in rows]
        texts = {}
        for manner in ("loose", "bent"):
            for sorts in (("a", "b"), ("b", "a"), ("a", "b", "c")):
                for some in [()] + [(box,) for box in boxes]:
                    stock = (manner, sorts, some)
                    texts[show_stock(stock)] = stock
                    self.assertTrue(same(read_stock(show_stock(stock)), stock))
        self.assertEqual(len(texts), 2 * 3 * (1 + len(boxes)))

    def test_rows_left_out_told_twice_exchanged(self):
        for stock in STOCKS:
            rows = show_stock(stock).split("\n")
            for i in range(len(rows)):
                self.judged("\n".join(rows[:i] + rows[i + 1:]))
                self.refused("\n".join(rows[:i + 1] + rows[i:]))
            for i, j in itertools.combinations(range(len(rows)), 2):
                turned = list(rows)
                turned[i], turned[j] = rows[j], rows[i]
                self.judged("\n".join(turned))
                if rows[i].split(" ")[0] != rows[j].split(" ")[0]:
                    self.refused("\n".join(turned))
        self.refused("sort a")
        self.refused("manner loose")
        self.refused("manner loose\nbox f >")

    def test_signs_exchanged_put_in_taken_out(self):
        for stock in (SMALL, BRAID, CALLED_LIKE_ROWS):
            text = show_stock(stock)
            for i in range(len(text) + 1):
                self.judged(text[:i] + text[i + 1:])
                for sign in " \n>abfz-|0A_\t":
                    self.judged(text[:i] + sign + text[i:])
                    self.judged(text[:i] + sign + text[i + 1:])

    def test_blanks_and_line_ends(self):
        for stock in STOCKS:
            text = show_stock(stock)
            for spoiled in (" " + text, text + " ", "\n" + text, text + "\n", text.replace("\n", "\n\n", 1),
                            text.replace("\n", " \n"), text.replace("\n", "\n "), text.replace(" ", "  "),
                            text.replace("\n", "\r\n"), text.replace("\n", " "), text.upper(), text + "\n" + text):
                self.refused(spoiled)

    def test_too_many_and_no_names(self):
        self.refused("manner loose" + "".join(f"\nsort {name}" for name in "abcde"))
        self.refused("manner loose\nsort a" + "".join(f"\nbox {name} >" for name in "abcdefghi"))
        self.refused("manner loose\nsort a\nbox f a a a a a >")
        self.refused("manner loose\nsort a\nbox f > a a a a a")
        self.refused("manner braid\nsort a\nbox f >")
        for word in ("cross", "cup", "cap", "over", "under", "abcdefghi", ">", "A", "", "b b"):
            self.refused(f"manner loose\nsort {word}")
            self.refused(f"manner loose\nsort a\nbox {word} > a")

    def test_boxes_rows_that_are_none(self):
        for row in ("box", "box ", "box f", "box >", "box > >", "box f > >", "box f a", "box f a a", "box f>",
                    "box f >a", "box f a > ", "box f  >", "box f b >", "box f > b", "f a > a", "boxes f >", "Box f >"):
            self.refused("manner loose\nsort a\n" + row)

    def test_what_is_no_text(self):
        for thing in ODD + (LOOSE, list("manner"), ("manner loose\nsort a",)):
            self.refused(thing)
