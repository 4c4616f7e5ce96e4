import copy
import random
import unittest

from oracles import braid_slid_about, chance_braid, slid_about, words_anew
from samples import BENT, BRAID, LOOSE, ODD, chance_picture, same
from slidewires.braidslides import braids_compared
from slidewires.checker import turns_in
from slidewires.comparing import compared
from slidewires.drawing import plain
from slidewires.errors import NoFind, NoFit, NoSlide, NoText, TooWide, WireError
from slidewires.joining import behind, beside
from slidewires.pictures import below_of
from slidewires.picturetexts import read_picture, show_picture
from slidewires.sheets import answers
from slidewires.stocktexts import read_stock, show_stock

HEAD = "manner bent\nsort a\nsort b\nbox f a > a\nbox g a > b\nbox dot >\nbox w a > a a"
PICTURES = (
    "picture p a | 0 f\n"
    "picture q a | 0 f | 0 cup b | 0 cap\n"
    "picture r a | 0 dot | 0 f\n"
    "picture s a | 0 f | 0 dot\n"
    "picture t a | 0 g\n"
    "picture u a\n"
    "picture nought -\n"
    "picture ring - | 0 cup a | 0 cap\n"
    "picture two a a | 0 f | 1 f\n"
    "picture turned a a | 1 f | 0 f\n"
    "picture bend a a | 0 cap\n"
    "picture bends - | 0 cup a"
)
BRAIDS = (
    "manner braid\nsort a\nsort b\n"
    "picture p a a a | 0 over | 1 over | 0 over\n"
    "picture q a a a | 1 over | 0 over | 1 over\n"
    "picture r a a a | 0 over | 0 under\n"
    "picture s a a a\n"
    "picture t a a a | 0 over | 1 under | 0 over | 0 under | 1 over | 0 under\n"
    "picture u a b a | 0 over\n"
    "picture v a b a | 0 over | 1 over | 1 under\n"
    "picture w a b a\n"
    "picture nought -"
)


class Sheets(unittest.TestCase):
    def told(self, text, expected):
        for _ in range(2):
            told = answers(text)
            self.assertTrue(same(told, expected), (text, told, expected))
            told.append(None)

    def refused(self, text):
        before = copy.deepcopy(text)
        for _ in range(2):
            with self.assertRaises(NoText, msg=text) as caught:
                answers(text)
            self.assertIsInstance(caught.exception, WireError)
            self.assertNotIsInstance(caught.exception, (NoFit, NoFind, NoSlide, TooWide))
        self.assertTrue(same(text, before))

    def asked(self, question, expected, sheet=HEAD + "\n" + PICTURES):
        self.told(f"{sheet}\n{question}", [expected])

    def braided(self, question, expected):
        self.asked(question, expected, BRAIDS)


class Questions(Sheets):
    def papered(self, sheet, one, other, turns):
        """How many slides the paper has is its own affair; how many turns isn't."""
        rows = sheet.split("\n")
        stock = read_stock("\n".join(row for row in rows if not row.startswith("picture")))
        texts = dict(row.split(" ", 2)[1:] for row in rows if row.startswith("picture"))
        paper = compared(stock, read_picture(stock, texts[one]), read_picture(stock, texts[other]))[1]
        self.asked(f"alike {one} {other}", f"alike {len(paper)} {turns}", sheet)

    def test_alike(self):
        self.asked("alike p p", "alike 0 0")
        sheet = HEAD + "\n" + PICTURES
        for one, other, turns in (("two", "turned", 1), ("turned", "two", 1), ("r", "s", 1), ("s", "r", 1), ("r", "r", 0),
                                  ("two", "two", 0), ("nought", "nought", 0)):
            self.papered(sheet, one, other, turns)
        sheet = HEAD + "\npicture one a | 0 f | 0 cup a | 0 cap\npicture two a | 1 cup a | 1 cap | 0 f"
        self.papered(sheet, "one", "two", 0)

    def test_unlike(self):
        self.asked("alike p t", "unlike feet")
        self.asked("alike p bend", "unlike feet")
        self.asked("alike nought u", "unlike feet")
        self.asked("alike p u", "unlike way")
        self.asked("alike u p", "unlike way")
        self.asked("alike p q", "unlike rings")
        self.asked("alike ring nought", "unlike rings")
        self.asked("alike p r", "unlike heaps")
        self.asked("alike s p", "unlike heaps")
        self.asked("alike q r", "unlike rings")

    def test_plain(self):
        self.asked("plain u", "a")
        self.asked("plain nought", "-")
        self.asked("plain ring", "- | 0 cup a | 0 cap")
        self.asked("plain p", "a | 0 f")
        self.asked("plain bend", "a a | 0 cap")
        for name in ("r", "s"):
            stock = read_stock(HEAD)
            picture = read_picture(stock, {"r": "a | 0 dot | 0 f", "s": "a | 0 f | 0 dot"}[name])
            self.asked(f"plain {name}", show_picture(stock, plain(stock, picture)))
        sheet = HEAD + "\n" + PICTURES
        self.assertEqual(answers(sheet + "\nplain r"), answers(sheet + "\nplain s"))

    def test_boxes(self):
        for name, many in (("u", 0), ("nought", 0), ("ring", 0), ("p", 1), ("q", 1), ("r", 2), ("two", 2)):
            self.asked(f"boxes {name}", str(many))

    def test_below(self):
        for name, below in (("u", "a"), ("p", "a"), ("t", "b"), ("nought", "-"), ("ring", "-"), ("bend", "-"),
                            ("bends", "a a"), ("two", "a a")):
            self.asked(f"below {name}", below)

    def test_behind(self):
        self.asked("behind p r", "a | 0 f | 0 dot | 0 f")
        self.asked("behind r p", "a | 0 dot | 0 f | 0 f")
        self.asked("behind p t", "a | 0 f | 0 g")
        self.asked("behind t p", "no")
        self.asked("behind p two", "no")
        self.asked("behind nought nought", "-")
        self.asked("behind nought p", "no")
        self.asked("behind p nought", "no")
        self.asked("behind bend bends", "a a | 0 cap | 0 cup a")
        self.asked("behind bends two", "- | 0 cup a | 0 f | 1 f")
        self.asked("behind u u", "a")
        self.asked("behind p p", "a | 0 f | 0 f")

    def test_beside(self):
        self.asked("beside p t", "a a | 0 f | 1 g")
        self.asked("beside t p", "a a | 0 g | 1 f")
        self.asked("beside bends p", "a | 0 cup a | 2 f")
        self.asked("beside bend p", "a a a | 0 cap | 0 f")
        self.asked("beside nought nought", "-")
        self.asked("beside nought p", "a | 0 f")
        self.asked("beside ring u", "a | 0 cup a | 0 cap")

    def test_loose(self):
        sheet = ("manner loose\nsort a\nbox f a > a\nbox w a > a a\npicture p a a | 0 f | 1 f\npicture q a a | 1 f | 0 f\n"
                 "picture r a a | 0 cross | 0 f | 1 f\npicture s a a | 0 cross | 0 cross")
        self.papered(sheet, "p", "q", 1)
        self.asked("alike p r", "unlike way", sheet)
        self.asked("plain s", "a a", sheet)
        self.asked("boxes r", "2", sheet)
        self.asked("below r", "a a", sheet)
        self.asked("behind p s", "a a | 0 f | 1 f | 0 cross | 0 cross", sheet)
        self.asked("beside s p", "a a a a | 0 cross | 0 cross | 2 f | 3 f", sheet)
        self.asked("alike s s", "alike 0 0", sheet)

    def test_braids(self):
        self.braided("alike p q", "alike 1 0")
        self.braided("alike p p", "alike 0 0")
        self.braided("alike r s", "alike 1 0")
        self.braided("alike s t", "alike - -")
        self.braided("alike t s", "alike - -")
        self.braided("alike p r", "unlike word")
        self.braided("alike p nought", "unlike feet")
        self.braided("alike u w", "unlike feet")
        self.braided("alike u v", "alike 1 0")
        self.braided("alike s w", "unlike feet")
        for name in "pqrstuvw":
            self.braided(f"plain {name}", "?")
            self.braided(f"boxes {name}", "0")
        self.braided("plain nought", "?")
        self.braided("below u", "b a a")
        self.braided("below w", "a b a")
        self.braided("below nought", "-")
        self.braided("behind p q", "a a a | 0 over | 1 over | 0 over | 1 over | 0 over | 1 over")
        self.braided("behind u w", "no")
        self.braided("beside u r", "a b a a a a | 0 over | 3 over | 3 under")

    def test_by_chance(self):
        chance = random.Random(251)
        for stock in (LOOSE, BENT):
            for _ in range(25):
                one = chance_picture(stock, chance, most_layers=8)[0]
                other = slid_about(stock, one, chance, chance.randrange(6))[0]
                other = other if chance.randrange(3) else chance_picture(stock, chance, above=one[0])[0]
                kind, more = compared(stock, one, other)
                alike = f"unlike {more[0]}" if kind == "unlike" else f"alike {len(more)} {turns_in(stock, one, more)}"
                self.rest(stock, one, other, alike, show_picture(stock, plain(stock, one)))

    def test_braids_by_chance(self):
        chance = random.Random(252)
        for _ in range(60):
            one = chance_braid(BRAID, chance, 8, chance.randrange(2, 5))
            other = braid_slid_about(one, chance, chance.randrange(6))[0]
            other = other if chance.randrange(3) else chance_braid(BRAID, chance, 8, len(one[0]))
            kind, more = braids_compared(BRAID, one, other)
            if kind == "unlike":
                alike = f"unlike {more[0]}"
            else:
                self.assertEqual(words_anew(one), words_anew(other))
                alike = "alike - -" if more is None else f"alike {len(more)} 0"
            self.rest(BRAID, one, other, alike, "?")

    def rest(self, stock, one, other, alike, form):
        rows = [show_stock(stock), f"picture one {show_picture(stock, one)}", f"picture two {show_picture(stock, other)}",
                "alike one two", "plain one", "boxes two", "below one", "beside one two", "behind one two", "behind one three"]
        try:
            joined = show_picture(stock, behind(stock, one, other))
        except NoFit:
            joined = "no"
        boxes = sum(step[0] == "box" for place, step in other[1])
        below = " ".join(below_of(stock, one)) or "-"
        expected = [alike, form, str(boxes), below, show_picture(stock, beside(stock, one, other)), joined, "?"]
        self.told("\n".join(rows), expected)


class Rows(Sheets):
    def test_no_questions(self):
        self.told(HEAD, [])
        self.told(f"{HEAD}\n{PICTURES}", [])
        self.told("manner loose\nsort a", [])
        self.told("manner loose\nsort a\npicture p a", [])

    def test_rows_without_signs(self):
        self.told(f"{HEAD}\n", ["?"])
        self.told(f"{HEAD}\n\n", ["?", "?"])
        self.told(f"{HEAD}\n{PICTURES}\n", ["?"])
        self.told(f"{HEAD}\n{PICTURES}\n\nboxes p\n", ["?", "1", "?"])
        self.told(f"{HEAD}\n{PICTURES}\nboxes p\nboxes r\n\n", ["1", "2", "?", "?"])

    def test_several_questions(self):
        self.told(f"{HEAD}\n{PICTURES}\nboxes p\nbelow t\nbehind t p\nnone\nboxes p", ["1", "b", "no", "?", "1"])

    def test_blanks(self):
        for row in (" ", "  ", "   ", " boxes p", "boxes p ", "boxes  p", "alike p  q", "alike  p q", " alike p q",
                    "alike p q ", "behind p q  ", "  boxes p"):
            self.asked(row, "?")

    def test_a_word_more_or_less(self):
        for row in ("alike", "alike p", "alike p q r", "plain", "plain p q", "boxes", "boxes p p", "below", "below p q",
                    "behind", "behind p", "behind p q r", "beside", "beside p", "beside p q p"):
            self.asked(row, "?")

    def test_other_words(self):
        for row in ("Alike p q", "ALIKE p q", "like p q", "box p", "sort a", "manner bent", "box z a > a", "alike, p q",
                    "boxes: p", "p", "?", "no", "-", "alikes p q", "over p q", "slid p", "words p", "table p", "a | 0 f",
                    "boxes\tp", "plain-p"):
            self.asked(row, "?")

    def test_names_that_are_not_there(self):
        for row in ("alike p x", "alike x p", "alike x x", "plain x", "boxes x", "below x", "behind p x", "behind x p",
                    "beside x p", "beside p x", "boxes P", "boxes f", "boxes a", "boxes picture", "below -", "boxes a|0",
                    "behind t x"):
            self.asked(row, "?")
        self.told(f"{HEAD}\nboxes p", ["?"])

    def test_a_pictures_row_behind_a_question(self):
        self.told(f"{HEAD}\npicture p a\nboxes p\npicture q a\nboxes q", ["0", "?", "?"])
        self.told(f"{HEAD}\n\npicture p a\nboxes p", ["?", "?", "?"])
        self.told(f"{HEAD}\npicture p a\nsort c\nbox h a > a\nmanner bent\nboxes p", ["?", "?", "?", "0"])
        self.told(f"{HEAD}\npicture p a\nsort c\npicture p | 0 none", ["?", "?"])

    def test_names_like_other_words(self):
        names = ("alike", "plain", "picture", "manner", "sort", "box", "no", "f", "a")
        sheet = HEAD + "".join(f"\npicture {name} a | 0 f" for name in names)
        for name in names:
            self.told(f"{sheet}\nboxes {name}\nalike {name} {name}", ["1", "alike 0 0"])


class Refused(Sheets):
    def test_what_is_no_text(self):
        for thing in ODD + ((), [HEAD], (HEAD,), {HEAD: HEAD}, None, 7, True):
            if not isinstance(thing, str):
                self.refused(thing)

    def test_no_stock(self):
        for text in ("", "\n", " ", "boxes p", "picture p a", "picture p a\nmanner bent\nsort a", "\n" + HEAD, " " + HEAD,
                     "?", "a", "A", "a b", "0"):
            self.refused(text)

    def test_a_stocks_rows_that_are_none(self):
        for text in ("manner", "manner bent", "manner bent\n", "manner bent\nboxes p", "manner odd\nsort a", "sort a",
                     "sort a\nmanner bent", "manner bent\nsort a\nsort a", "manner bent\nsort cup", "manner bent\nsort A",
                     "manner bent\nbox f a > a", "manner bent\nbox f a > a\nsort a", "manner bent\nsort a\nbox f a a",
                     "manner bent\nsort a\nbox f b > a", "manner bent\nsort a\nbox f a > a\nbox f > a",
                     "manner bent\nsort a\nmanner bent", "manner braid\nsort a\nbox f a > a", "manner bent\nsort",
                     "manner bent\nsort a\nbox", "manner bent\nsort a ", "manner bent \nsort a", "manner bent\nsort  a",
                     "manner bent\nsort a\nbox f  a > a", "manner bent\nsort a b", "Manner bent\nsort a"):
            self.refused(text)
            self.refused(text + "\npicture p a")

    def test_a_picture_that_is_none(self):
        for row in ("picture", "picture ", "picture p", "picture p ", "picture  p a", "picture p  a", "picture p a ",
                    "picture p c", "picture p a b c", "picture p a | 0 none", "picture p a | 1 f", "picture p a | 0 over",
                    "picture p a | 0 f |", "picture p a| 0 f", "picture p a | 00 f", "picture P a", "picture cup a",
                    "picture toolongname a", "picture p1 a", "picture - a", "picture a", "picture p a | 0 cap",
                    "picture p a | 0 f | 0 f | 0 g | 0 f", "picture p - | 0", "picture over -"):
            self.refused(f"{HEAD}\n{row}")
            self.refused(f"{HEAD}\npicture ok a\n{row}\nboxes ok")
        self.refused("manner braid\nsort a\npicture p a a | 0 cross")
        self.refused("manner loose\nsort a\npicture p a a | 0 cap")

    def test_a_name_twice(self):
        self.refused(f"{HEAD}\npicture p a\npicture p a")
        self.refused(f"{HEAD}\npicture p a\npicture q a\npicture p a | 0 f\nboxes p")

    def test_signs_of_all_kinds(self):
        signs = "".join(chr(number) for number in range(32, 127) if chr(number) != "%")
        self.refused(signs)
        self.told(f"{HEAD}\n{signs}\n{signs[::-1]}", ["?", "?"])
        self.refused(f"{HEAD}\npicture p {signs}")
        self.refused(f"{HEAD}\npicture p a | {'9' * 3000} f")
