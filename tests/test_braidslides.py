import copy
import itertools
import random
import unittest

from oracles import (
    SIDES, braid_slid_about, braid_slid_anew, braid_slides, braid_text, chance_braid, words_anew,
)
from samples import BRAID, ODD, less_and_twice, same, with_lists, with_more, with_odd
from slidewires.braids import words_of
from slidewires.braidslides import braid_slid, braid_walks, braids_compared
from slidewires.errors import NoFind, NoFit, NoSlide, NoText, TooWide, WireError
from slidewires.pictures import is_picture

ONE_SORT = ("braid", ("a",), ())


class BraidSlides(unittest.TestCase):
    def refused(self, picture, slide):
        before = copy.deepcopy((picture, slide))
        for _ in range(2):
            with self.assertRaises(NoSlide, msg=slide) as caught:
                braid_slid(BRAID, picture, slide)
            self.assertIsInstance(caught.exception, WireError)
            self.assertNotIsInstance(caught.exception, (NoText, NoFit, NoFind, TooWide))
        self.assertTrue(same((picture, slide), before))

    def done(self, picture, slide, expected):
        before = copy.deepcopy((picture, slide))
        for _ in range(2):
            told = braid_slid(BRAID, picture, slide)
            self.assertTrue(same(told, expected), (picture, slide, told))
        self.assertIs(is_picture(BRAID, told), True)
        self.assertEqual(words_anew(told), words_anew(picture))
        self.assertTrue(same((picture, slide), before))

    def judged(self, picture, slide):
        expected = braid_slid_anew(picture, slide)
        if expected is None:
            self.refused(picture, slide)
        else:
            self.done(picture, slide, expected)
        return expected is not None

    def texts(self, text, slide, expected=None):
        if expected is None:
            self.refused(braid_text(text), slide)
        else:
            self.done(braid_text(text), slide, braid_text(expected))


class Slid(BraidSlides):
    def test_turn(self):
        self.texts("4: 0o 2u", ("turn", 0, "right"), "4: 2u 0o")
        self.texts("4: 0o 2u", ("turn", 0, "left"))
        self.texts("4: 2o 0o", ("turn", 0, "left"), "4: 0o 2o")
        self.texts("4: 2o 0o", ("turn", 0, "right"))
        self.texts("6: 0o 4u", ("turn", 0, "right"), "6: 4u 0o")
        self.texts("6: 4u 1o", ("turn", 0, "left"), "6: 1o 4u")
        for touching in ("0o 1o", "1u 0o", "1o 1u", "0o 0o", "2u 1o"):
            for side in SIDES:
                self.texts(f"4: {touching}", ("turn", 0, side))
        self.texts("5: 1o 0o 2u 3o", ("turn", 1, "right"), "5: 1o 2u 0o 3o")
        self.texts("4: 0o 2u", ("turn", 1, "right"))
        self.texts("4: 0o 2u", ("turn", 2, "right"))

    def test_pair(self):
        self.texts("2: 0o 0u", ("pair", 0), "2:")
        self.texts("2: 0u 0o", ("pair", 0), "2:")
        self.texts("2: 0u 0u", ("pair", 0))
        self.texts("2: 0o 0o", ("pair", 0))
        self.texts("3: 0o 1u", ("pair", 0))
        self.texts("3: 1o 0u", ("pair", 0))
        self.texts("3: 1o 0o 0u 1u", ("pair", 1), "3: 1o 1u")
        self.texts("3: 1o 0o 0u 1u", ("pair", 0))
        self.texts("3: 1o 0o 0u 1u", ("pair", 2))
        self.texts("3: 1o 0o 0u 1u", ("pair", 3))
        self.texts("3: 1o 0o 0u 1u", ("pair", 4))
        self.texts("3: 1o 0o 0u 1u 0o", ("pair", -4))
        self.texts("2: 0o", ("pair", 0))
        self.texts("2:", ("pair", 0))

    def test_twine(self):
        self.texts("3: 1o", ("twine", 0, 0, "over"), "3: 0o 0u 1o")
        self.texts("3: 1o", ("twine", 0, 0, "under"), "3: 0u 0o 1o")
        self.texts("3: 1o", ("twine", 1, 1, "over"), "3: 1o 1o 1u")
        self.texts("3: 1o", ("twine", 1, 1, "under"), "3: 1o 1u 1o")
        self.texts("3: 1o 0u", ("twine", 1, 0, "under"), "3: 1o 0u 0o 0u")
        self.texts("2:", ("twine", 0, 0, "over"), "2: 0o 0u")
        self.texts("3: 1o", ("twine", 2, 0, "over"))
        self.texts("3: 1o", ("twine", -1, 0, "over"))
        for place in (-2, -1, 2, 3, 10**39):
            self.texts("3: 1o", ("twine", 0, place, "over"))
        for wires in (0, 1):
            for place in (-2, -1, 0, 1):
                self.texts(f"{wires}:", ("twine", 0, place, "over"))
        for word in ("", "Over", "over ", "cross", "cup", "left", "o", None, 0, True, ("over",), ["over"], {}):
            self.texts("3: 1o", ("twine", 0, 0, word))

    def test_three(self):
        for many in (3, 5):
            for i in range(many - 2):
                for x, y, z in itertools.product("ou", repeat=3):
                    low = f"{i}{x} {i + 1}{y} {i}{z}"
                    high = f"{i + 1}{x} {i}{y} {i + 1}{z}"
                    if x == z and x != y:
                        self.texts(f"{many}: {low}", ("three", 0))
                        self.texts(f"{many}: {high}", ("three", 0))
                    else:
                        self.texts(f"{many}: {low}", ("three", 0), f"{many}: {i + 1}{z} {i}{y} {i + 1}{x}")
                        self.texts(f"{many}: {high}", ("three", 0), f"{many}: {i}{z} {i + 1}{y} {i}{x}")
                        self.texts(f"{many}: 0u {low} 1u", ("three", 1), f"{many}: 0u {i + 1}{z} {i}{y} {i + 1}{x} 1u")

    def test_three_at_other_places(self):
        for places in itertools.product(range(4), repeat=3):
            picture = (("a",) * 5, tuple((place, ("over",)) for place in places))
            told = self.judged(picture, ("three", 0))
            self.assertEqual(told, places[0] == places[2] and abs(places[0] - places[1]) == 1)
        self.texts("3: 0o 1o", ("three", 0))
        self.texts("3: 0o 1o 0o", ("three", 1))
        self.texts("3: 0o 1o 0o", ("three", -1))
        self.texts("3: 0o 1o 0o", ("three", -3))
        self.texts("3: 0o 1o 0o", ("three", 3))

    def test_the_three_that_is_none_would_change_the_words(self):
        one = words_of(BRAID, braid_text("3: 0o 1u 0o"))
        self.assertNotEqual(one, words_of(BRAID, braid_text("3: 1o 0u 1o")))

    def test_every_slide_by_chance(self):
        chance = random.Random(171)
        told = {}
        for _ in range(120):
            picture = chance_braid(BRAID, chance, most_layers=12, wires=chance.randrange(6))
            for slide in braid_slides(picture):
                was = self.judged(picture, slide)
                told[slide[0], was] = told.get((slide[0], was), 0) + 1
        self.assertEqual(len(told), 8)
        self.assertGreater(min(told.values()), 30)

    def test_every_slide_of_short_braids(self):
        layers = [(place, (word,)) for place in range(3) for word in ("over", "under")]
        for some in itertools.product(layers, repeat=3):
            for slide in braid_slides((("a", "b", "b", "a"), some)):
                self.judged((("a", "b", "b", "a"), some), slide)


class Anything(BraidSlides):
    """NoSlide and nothing else, of anything."""

    def right_slides(self):
        picture = braid_text("4: 0o 2u 1u 0u 1o 1u")
        return picture, (("turn", 0, "right"), ("pair", 4), ("twine", 1, 1, "over"), ("twine", 6, 0, "under"),
                         ("three", 2))

    def test_odd_things(self):
        picture, slides = self.right_slides()
        for thing in ODD + ((),):
            self.refused(picture, thing)
        for slide in slides:
            self.assertTrue(self.judged(picture, slide))
            for thing in with_odd(slide):
                self.judged(picture, thing)

    def test_truths_and_texts_for_numbers(self):
        picture, slides = self.right_slides()
        for slide in slides:
            for thing in (True, False, str(slide[1]), None, [slide[1]], (slide[1],), {}):
                self.refused(picture, slide[:1] + (thing,) + slide[2:])
                if slide[0] == "twine":
                    self.refused(picture, slide[:2] + (thing,) + slide[3:])
        self.refused(braid_text("2: 0o 0u"), ("pair", False))
        self.refused(braid_text("3: 0o 1o 0o"), ("three", False))
        self.refused(braid_text("4: 0o 0o 2o"), ("turn", True, "right"))

    def test_numbers_that_are_none_of_a_layer(self):
        picture, slides = self.right_slides()
        many = len(picture[1])
        for slide in slides:
            for number in (-1, -2, -many, many + 1, 10 * many, 10**39, -(10**39)):
                self.refused(picture, slide[:1] + (number,) + slide[2:])
            for number in range(-2 * many, 2 * many):
                self.judged(picture, slide[:1] + (number,) + slide[2:])

    def test_other_kinds_and_sides(self):
        picture, slides = self.right_slides()
        for slide in slides:
            for kind in ("", "Turn", "pair ", "past", "unpast", "wires", "box", "cross", "over", 0, None, True,
                         ("turn",), ["turn"], {}):
                self.refused(picture, (kind,) + slide[1:])
        for side in ("", "Left", "up", 0, None, True, ("right",), ["right"], {}, "leftright"):
            self.refused(picture, ("turn", 0, side))
            self.refused(braid_text("4: 2o 0o"), ("turn", 0, side))
        for slide in (("past", 0, "left"), ("unpast", 0, "left"), ("wires", 0, 0, ()), ("wires", 0, 1, ())):
            self.refused(picture, slide)

    def test_a_part_more_or_less(self):
        picture, slides = self.right_slides()
        for slide in slides:
            for thing in with_more(slide) + less_and_twice(slide, ()):
                self.refused(picture, thing)

    def test_lists_for_tuples(self):
        picture, slides = self.right_slides()
        for slide in slides:
            for thing in with_lists(slide):
                self.refused(picture, thing)


class Walks(unittest.TestCase):
    def judged(self, one, other, thing):
        before = copy.deepcopy((one, other, thing))
        here = one if type(thing) is tuple else None
        for slide in thing if type(thing) is tuple else ():
            here = None if here is None else braid_slid_anew(here, slide)
        for _ in range(2):
            self.assertIs(braid_walks(BRAID, one, other, thing), here == other, (one, other, thing))
        self.assertTrue(same((one, other, thing), before))
        return here == other

    def samples(self, many, seed):
        chance = random.Random(seed)
        for _ in range(many):
            one = chance_braid(BRAID, chance, most_layers=10, wires=chance.randrange(2, 6))
            other, paper = braid_slid_about(one, chance, chance.randrange(10))
            yield chance, one, other, paper

    def test_without_slides(self):
        for chance, one, other, paper in self.samples(40, 172):
            self.assertTrue(self.judged(one, one, ()))
            self.assertEqual(self.judged(one, other, ()), one == other)
        self.assertTrue(self.judged(((), ()), ((), ()), ()))

    def test_rows_one_behind_another(self):
        for chance, one, other, paper in self.samples(60, 173):
            self.assertTrue(self.judged(one, other, paper))
            third, more = braid_slid_about(other, chance)
            self.assertTrue(self.judged(one, third, paper + more))
            self.judged(one, third, more + paper)

    def test_a_slide_too_much_or_too_few(self):
        refused = 0
        for chance, one, other, paper in self.samples(40, 174):
            for k in range(len(paper)):
                for thing in (paper[:k] + paper[k + 1:], paper[:k + 1] + paper[k:], paper[:k], paper[k:],
                              paper[:k] + paper[k:k + 2][::-1] + paper[k + 2:]):
                    refused += not self.judged(one, other, thing)
        self.assertGreater(refused, 100)

    def test_another_end(self):
        for chance, one, other, paper in self.samples(40, 175):
            for end in (one, (other[0] + ("a",), other[1]), (other[0], other[1] + ((0, ("over",)),)),
                        (other[0], other[1][:-1])):
                if end != other:
                    self.assertFalse(self.judged(one, end, paper))

    def test_of_anything(self):
        one = braid_text("4: 0o 2u 1u 0u 1o 1u")
        paper = (("turn", 0, "right"), ("pair", 4), ("twine", 0, 2, "under"), ("three", 3))
        other = one
        for slide in paper:
            other = braid_slid_anew(other, slide)
        self.assertEqual(other, braid_text("4: 2u 2o 2u 1u 0u 1o"))
        self.assertTrue(self.judged(one, other, paper))
        for thing in ODD:
            self.judged(one, other, thing)
            self.assertIs(braid_walks(BRAID, one, one, thing), False)
        for thing in with_odd(paper) + with_lists(paper) + with_more(paper) + less_and_twice(paper, ()):
            self.judged(one, other, thing)
        for thing in with_lists(paper):
            self.assertIs(braid_walks(BRAID, one, other, thing), False)
        for thing in ("", "turn", {}, [], None, 0, False, ((),), (((),),), ("pair", 4)):
            self.assertIs(braid_walks(BRAID, one, one, thing), False)

    def test_long_ones(self):
        one = braid_text("3: 0o 1u")
        self.assertTrue(self.judged(one, one, (("twine", 1, 0, "over"), ("pair", 1)) * 200))
        grown = (one[0], one[1][:1] + ((1, ("over",)),) * 500 + ((1, ("under",)),) * 500 + one[1][1:])
        self.assertTrue(self.judged(one, grown, tuple(("twine", 1 + k, 1, "over") for k in range(500))))


class Compared(unittest.TestCase):
    def told(self, stock, one, other):
        before = copy.deepcopy((stock, one, other))
        told = braids_compared(stock, one, other)
        self.assertTrue(same(told, braids_compared(stock, one, other)))
        self.assertTrue(same((stock, one, other), before))
        return told

    def near(self, braid):
        """All braids by at most two turns, pairs or threes, with the fewest of them."""
        found = {braid: 0}
        for many in (1, 2):
            for here in list(found):
                for slide in braid_slides(here, twines=False):
                    then = braid_slid_anew(here, slide)
                    if then is not None:
                        found.setdefault(then, many)
        return found

    def judged(self, stock, one, other):
        """Tells how many slides the paper has, None without a paper, or "unlike"."""
        told = self.told(stock, one, other)
        ones, others = words_anew(one), words_anew(other)
        if ones != others:
            place = [k for k in range(len(ones)) if ones[k] != others[k]][0]
            self.assertTrue(same(told, ("unlike", ("word", place, ones[place], others[place]))), told)
            return "unlike"
        self.assertEqual((len(told), told[0]), (2, "alike"))
        meets = [braid for braid in self.near(one) if braid in self.near(other)]
        if not meets:
            self.assertIsNone(told[1])
            return None
        self.assertIs(type(told[1]), tuple)
        self.assertIs(braid_walks(stock, one, other, told[1]), True)
        self.halves(one, other, told[1])
        return len(told[1])

    def halves(self, one, other, paper):
        here, far = one, self.near(other)
        parts = []
        for k in range(len(paper) + 1):
            if k <= 2 and len(paper) - k <= 2 and here in far:
                there = all(slide[0] in ("turn", "pair", "three") for slide in paper[:k])
                back = all(slide[0] in ("turn", "twine", "three") for slide in paper[k:])
                parts.append(there and back)
            if k < len(paper):
                here = braid_slid_anew(here, paper[k])
        self.assertTrue(any(parts), (one, other, paper))

    def test_feet(self):
        for one, other in (((), ("a",)), (("a",), ("b",)), (("a", "b"), ("b", "a")), (("a",), ("a", "a"))):
            self.assertTrue(same(self.told(BRAID, (one, ()), (other, ())), ("unlike", ("feet",))))
            self.assertTrue(same(self.told(BRAID, (other, ()), (one, ())), ("unlike", ("feet",))))
        one = (("a", "b"), ())
        other = (("a", "b"), ((0, ("over",)),))
        self.assertTrue(same(self.told(BRAID, one, other), ("unlike", ("feet",))))
        self.assertTrue(same(self.told(BRAID, other, one), ("unlike", ("feet",))))
        self.assertTrue(same(self.told(BRAID, other, (("b", "a"), ())), ("unlike", ("feet",))))
        self.assertTrue(same(self.told(BRAID, (("a", "b"), other[1]), (("a", "a"), other[1])), ("unlike", ("feet",))))

    def test_words(self):
        told = self.told(ONE_SORT, braid_text("2: 0o"), braid_text("2: 0u"))
        self.assertTrue(same(told, ("unlike", ("word", 0, (1, 2, -1), (2,)))))
        told = self.told(ONE_SORT, braid_text("4: 2o"), braid_text("4:"))
        self.assertTrue(same(told, ("unlike", ("word", 2, (3, 4, -3), (3,)))))
        told = self.told(ONE_SORT, braid_text("4: 0o 0o 2o"), braid_text("4: 0o 0o"))
        self.assertTrue(same(told, ("unlike", ("word", 2, (3, 4, -3), (3,)))))
        self.assertEqual(self.judged(ONE_SORT, braid_text("3: 0o 1u 0o"), braid_text("3: 1o 0u 1o")), "unlike")
        mixed = (("a", "b"), ((0, ("over",)),)), (("a", "b"), ((0, ("under",)),))
        self.assertEqual(self.judged(BRAID, *mixed), "unlike")

    def test_papers_of_each_length(self):
        for one, other, many in (
            ("3: 0o 1u", "3: 0o 1u", 0),
            ("0:", "0:", 0),
            ("4: 0o 2u", "4: 2u 0o", 1),
            ("3: 0o 0u", "3:", 1),
            ("3:", "3: 0o 0u", 1),
            ("3: 0o 1o 0o", "3: 1o 0o 1o", 1),
            ("3: 0o 0u", "3: 1u 1o", 2),
            ("3:", "3: 0o 1u 1o 0u", 2),
            ("3: 0o 1u 1o 0u", "3:", 2),
            ("3: 0o 1u 1o 0u", "3: 0u 0o", 3),
            ("3: 0u 0o", "3: 0o 1u 1o 0u", 3),
            ("3: 0o 1u 1o 0u", "3: 1o 0u 0o 1u", 4),
            ("4: 0o 0u 1o 1u", "4: 2o 2u 1u 1o", 4),
        ):
            self.assertEqual(self.judged(ONE_SORT, braid_text(one), braid_text(other)), many, (one, other))

    def test_alike_without_a_paper(self):
        for one, other in (
            ("3:", "3: 0o 1u 0o 0u 1o 0u"),
            ("2:", "2: 0o 0u 0o 0u 0o 0u"),
            ("3: 0o 1o 0o 1o 0o 1o 0o", "3: 0o 0o 1o 0o 1o 0o 1o"),
        ):
            self.judged(ONE_SORT, braid_text(one), braid_text(other))
        self.assertIsNone(self.judged(ONE_SORT, braid_text("2:"), braid_text("2: 0o 0u 0o 0u 0o 0u")))
        self.assertIsNone(self.judged(ONE_SORT, braid_text("3: 0o 1u 0o 0u 1o 0u"), braid_text("3:")))
        for one, other in (("2:", "2: 0o 0u 0o 0u 0o 0u"), ("3: 0o 1u 0o 0u 1o 0u", "3:")):
            self.assertTrue(same(self.told(ONE_SORT, braid_text(one), braid_text(other)), ("alike", None)))

    def test_by_chance(self):
        chance = random.Random(176)
        told = {}
        for _ in range(250):
            one = chance_braid(BRAID, chance, most_layers=10, wires=chance.randrange(2, 5))
            other = braid_slid_about(one, chance, chance.randrange(8), most_layers=14)[0]
            many = self.judged(BRAID, one, other)
            told[many] = told.get(many, 0) + 1
            if other[1] and chance.randrange(3) == 0:
                at = chance.randrange(len(other[1]))
                place, step = other[1][at]
                changed = (place, ("under",) if step == ("over",) else ("over",))
                many = self.judged(BRAID, one, (other[0], other[1][:at] + (changed,) + other[1][at + 1:]))
                told[many] = told.get(many, 0) + 1
        for many in (0, 1, 2, 3, 4, None, "unlike"):
            self.assertGreater(told.get(many, 0), 3, told)

    def test_alike_are_just_those_with_the_same_words(self):
        layers = [(place, (word,)) for place in range(2) for word in ("over", "under")]
        braids = [(("a",) * 3, some) for many in range(4) for some in itertools.product(layers, repeat=many)]
        chance = random.Random(177)
        for _ in range(1500):
            one, other = chance.choice(braids), chance.choice(braids)
            self.judged(ONE_SORT, one, other)

    def test_great_braids(self):
        chance = random.Random(178)
        for _ in range(12):
            one = chance_braid(ONE_SORT, chance, wires=9)
            other = braid_slid_about(one, chance, 3, twines=False)[0]
            self.judged(ONE_SORT, one, other)
        one = braid_text("9: " + " ".join(f"{2 * k}o" for k in range(4)) + " 0u 2u 4u 6u" * 4)
        self.judged(ONE_SORT, one, one)
