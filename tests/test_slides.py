import copy
import itertools
import random
import unittest

from oracles import SIDES, chance_wires, numbered_otherwise, sided_slides, slid_about, slid_anew
from samples import BENT, LOOSE, ODD, chance_picture, less_and_twice, same, with_lists, with_more, with_odd
from slidewires.errors import NoFind, NoFit, NoSlide, NoText, TooWide, WireError
from slidewires.graphs import graph_of
from slidewires.pictures import is_picture
from slidewires.picturetexts import read_picture
from slidewires.slides import back_slide, slid

# A box for each number of feet above and below, from none to three.
FEET = ("bent", ("a", "b"), tuple(
    (f"f{above}{below}".translate(str.maketrans("0123", "nopq")), ("a", "b", "a")[:above], ("b", "b", "a")[:below])
    for above, below in ((0, 0), (0, 2), (1, 0), (1, 1), (2, 1), (3, 2), (0, 1), (2, 3))
))


class Slides(unittest.TestCase):
    def refused(self, stock, picture, slide):
        before = copy.deepcopy((picture, slide))
        for ask in (slid, slid, back_slide):
            with self.assertRaises(NoSlide, msg=slide) as caught:
                ask(stock, picture, slide)
            self.assertIsInstance(caught.exception, WireError)
            self.assertNotIsInstance(caught.exception, (NoText, NoFit, NoFind, TooWide))
        self.assertTrue(same((picture, slide), before))

    def done(self, stock, picture, slide, expected):
        before = copy.deepcopy((picture, slide))
        told = slid(stock, picture, slide)
        self.assertTrue(same(told, expected), (slide, told, expected))
        self.assertTrue(same(slid(stock, picture, slide), expected))
        self.assertIs(is_picture(stock, told), True)
        self.keeps_the_graph(stock, picture, slide, told)
        back = back_slide(stock, picture, slide)
        self.assertTrue(same(back, back_slide(stock, picture, slide)))
        self.assertTrue(same(slid(stock, told, back), picture), (slide, back))
        self.assertTrue(same((picture, slide), before))

    def keeps_the_graph(self, stock, picture, slide, told):
        graph = graph_of(stock, picture)
        layers = picture[1]
        order = list(range(1, len(graph[2]) + 1))
        if slide[0] == "turn" and [step[0] for place, step in layers[slide[1]:slide[1] + 2]] == ["box", "box"]:
            k = sum(step[0] == "box" for place, step in layers[:slide[1]])
            order[k:k + 2] = [k + 2, k + 1]
        self.assertTrue(same(graph_of(stock, told), numbered_otherwise(graph, order)))

    def judged(self, stock, picture, slide):
        expected = slid_anew(stock, picture, slide)
        if expected is None:
            self.refused(stock, picture, slide)
        else:
            self.done(stock, picture, slide, expected)
        return expected is not None

    def texts(self, stock, text, slide, expected=None):
        picture = read_picture(stock, text)
        if expected is None:
            self.refused(stock, picture, slide)
        else:
            self.done(stock, picture, slide, read_picture(stock, expected))


class Slid(Slides):
    def test_turn_of_layers_side_by_side(self):
        self.texts(LOOSE, "a a b | 0 g | 3 gone", ("turn", 0, "right"), "a a b | 2 gone | 0 g")
        self.texts(LOOSE, "a a b | 0 g | 3 gone", ("turn", 0, "left"))
        self.texts(LOOSE, "a a b | 2 gone | 0 g", ("turn", 0, "left"), "a a b | 0 g | 3 gone")
        self.texts(LOOSE, "a a b | 2 gone | 0 g", ("turn", 0, "right"))
        self.texts(LOOSE, "a b a | 0 f | 1 g", ("turn", 0, "right"), "a b a | 2 g | 0 f")
        self.texts(LOOSE, "a b a | 0 f | 0 cross", ("turn", 0, "left"))
        self.texts(LOOSE, "a b a | 0 f | 0 cross", ("turn", 0, "right"))
        self.texts(LOOSE, "a a a a | 0 cross | 2 cross", ("turn", 0, "right"), "a a a a | 2 cross | 0 cross")
        self.texts(LOOSE, "a a a | 0 cross | 1 cross", ("turn", 0, "right"))
        self.texts(LOOSE, "a a a | 0 cross | 0 cross", ("turn", 0, "left"))

    def test_turn_at_the_rim(self):
        self.texts(LOOSE, "- | 0 dot | 0 dot", ("turn", 0, "left"), "- | 0 dot | 0 dot")
        self.texts(LOOSE, "- | 0 dot | 0 dot", ("turn", 0, "right"), "- | 0 dot | 0 dot")
        self.texts(LOOSE, "b | 0 gone | 0 new", ("turn", 0, "left"), "b | 0 new | 1 gone")
        self.texts(LOOSE, "b | 0 gone | 0 new", ("turn", 0, "right"), "b | 1 new | 0 gone")
        self.texts(LOOSE, "- | 0 new | 0 new", ("turn", 0, "left"), "- | 0 new | 1 new")
        self.texts(LOOSE, "- | 0 new | 0 new", ("turn", 0, "right"))
        self.texts(LOOSE, "- | 0 new | 1 new", ("turn", 0, "right"), "- | 0 new | 0 new")
        self.texts(LOOSE, "- | 0 new | 1 new", ("turn", 0, "left"))
        self.texts(LOOSE, "b b | 0 gone | 0 gone", ("turn", 0, "right"), "b b | 1 gone | 0 gone")
        self.texts(LOOSE, "b b | 0 gone | 0 gone", ("turn", 0, "left"))
        self.texts(BENT, "a a | 0 cap | 0 cup b", ("turn", 0, "left"), "a a | 0 cup b | 2 cap")
        self.texts(BENT, "a a | 0 cap | 0 cup b", ("turn", 0, "right"), "a a | 2 cup b | 0 cap")
        self.texts(BENT, "- | 0 cup a | 1 cup b", ("turn", 0, "left"))
        self.texts(BENT, "- | 0 cup a | 1 cup b", ("turn", 0, "right"))
        self.texts(BENT, "- | 0 cup a | 0 cup b", ("turn", 0, "left"), "- | 0 cup b | 2 cup a")
        self.texts(BENT, "- | 0 cup a | 2 cup b", ("turn", 0, "right"), "- | 0 cup b | 0 cup a")
        self.texts(BENT, "a b b a | 1 cap | 0 cap", ("turn", 0, "left"))
        self.texts(BENT, "a b b a | 1 cap | 0 cap", ("turn", 0, "right"))
        self.texts(BENT, "a b | 1 gone | 1 dot", ("turn", 0, "right"), "a b | 2 dot | 1 gone")
        self.texts(BENT, "a b | 1 gone | 1 dot", ("turn", 0, "left"), "a b | 1 dot | 1 gone")

    def test_turn_of_every_two_kinds(self):
        steps = [("cross",), ("cup", "a"), ("cap",)] + [("box", box[0]) for box in FEET[2]]
        told = {True: 0, False: 0}
        for first, second in itertools.product(steps, repeat=2):
            for above in (("a", "b", "a", "a", "b", "a"), ("a", "a", "a", "b", "a"), ("a", "a")):
                for one, other in itertools.product(range(len(above) + 1), repeat=2):
                    picture = (above, ((one, first), (other, second)))
                    if is_picture(FEET, picture):
                        for side in SIDES:
                            told[self.judged(FEET, picture, ("turn", 0, side))] += 1
        self.assertGreater(min(told.values()), 1000)

    def test_past_and_unpast(self):
        self.texts(LOOSE, "a a b | 0 g", ("past", 0, "right"), "a a b | 0 cross | 1 g | 0 cross | 1 cross")
        self.texts(LOOSE, "b a b | 1 f", ("past", 0, "left"), "b a b | 0 cross | 1 cross | 0 f | 0 cross")
        self.texts(LOOSE, "b a b | 1 f", ("past", 0, "right"))
        self.texts(LOOSE, "b a b | 1 f", ("past", 1, "left"))
        self.texts(LOOSE, "b | 1 new", ("past", 0, "left"), "b | 0 new | 0 cross")
        self.texts(LOOSE, "b | 0 new", ("past", 0, "right"), "b | 1 new | 0 cross")
        self.texts(LOOSE, "b b | 1 gone", ("past", 0, "left"), "b b | 0 cross | 0 gone")
        self.texts(LOOSE, "b b | 0 gone", ("past", 0, "right"), "b b | 0 cross | 1 gone")
        self.texts(LOOSE, "b a b b | 1 f", ("past", 0, "left"), "b a b b | 0 cross | 1 cross | 0 f | 0 cross")
        self.texts(LOOSE, "b a b b | 1 f", ("past", 0, "right"), "b a b b | 2 cross | 1 cross | 2 f | 1 cross")

    def test_no_wire_there(self):
        for text in ("a | 0 g", "a b | 0 f", "- | 0 new", "- | 0 dot", "a a | 0 same", "b | 0 gone"):
            for side in SIDES:
                self.texts(LOOSE, text, ("past", 0, side))
                self.texts(LOOSE, text, ("unpast", 0, side))

    def test_boxes_without_feet(self):
        self.texts(LOOSE, "a b | 1 dot", ("past", 0, "right"), "a b | 2 dot")
        self.texts(LOOSE, "a b | 1 dot", ("past", 0, "left"), "a b | 0 dot")
        self.texts(LOOSE, "a b | 1 dot", ("unpast", 0, "right"), "a b | 0 dot")
        self.texts(LOOSE, "a b | 1 dot", ("unpast", 0, "left"), "a b | 2 dot")
        self.texts(LOOSE, "a b | 2 dot", ("past", 0, "right"))
        self.texts(LOOSE, "a b | 2 dot", ("unpast", 0, "left"))
        self.texts(LOOSE, "a b | 0 dot", ("past", 0, "left"))
        self.texts(LOOSE, "a b | 0 dot", ("unpast", 0, "right"))

    def test_layers_that_are_no_boxes(self):
        for text in ("a a a | 1 cross", "a | 1 cup a", "a a a a | 1 cap"):
            for kind in ("past", "unpast"):
                for side in SIDES:
                    self.texts(BENT, text, (kind, 0, side))

    def test_past_of_each_box_and_back(self):
        many = 0
        for name, above, below in FEET[2]:
            for left in range(4):
                for right in range(4):
                    row = ("b", "a", "b")[:left] + above + ("a", "b", "b")[:right]
                    picture = (row, ((left, ("box", name)),))
                    for side, wires in (("left", left), ("right", right)):
                        slide = ("past", 0, side)
                        self.assertEqual(self.judged(FEET, picture, slide), wires > 0)
                        if wires:
                            then = slid(FEET, picture, slide)
                            self.assertEqual(len(then[1]), 1 + len(above) + len(below))
                            self.done(FEET, then, ("unpast", 0, side), picture)
                            self.spoiled_pasts(then, side)
                            many += 1
        self.assertEqual(many, 2 * 3 * 4 * len(FEET[2]))

    def spoiled_pasts(self, picture, side):
        """Layers exchanged, left out, put in: most are no such past any more; and the other side."""
        above, layers = picture
        for at in range(len(layers) + 1):
            spoiled = [layers[:at] + layers[at + 1:], layers[:at] + ((0, ("cross",)),) + layers[at:]]
            spoiled += [layers[:at] + layers[at:at + 2][::-1] + layers[at + 2:]]
            spoiled += [layers[:at] + tuple((place + by, step) for place, step in layers[at:at + 1]) + layers[at + 1:]
                        for by in (-1, 1) if at < len(layers) and layers[at][0] + by >= 0]
            for some in spoiled:
                if is_picture(FEET, (above, some)):
                    for start in range(len(some)):
                        for way in SIDES:
                            self.judged(FEET, (above, some), ("unpast", start, way))

    def test_wires(self):
        self.texts(LOOSE, "a b", ("wires", 0, 0, ()), "a b")
        self.texts(LOOSE, "a b", ("wires", 0, 0, ((0, ("cross",)),) * 2), "a b | 0 cross | 0 cross")
        self.texts(LOOSE, "a b", ("wires", 0, 0, ((0, ("cross",)),)))
        self.texts(LOOSE, "a b", ("wires", 0, 1, ()))
        self.texts(LOOSE, "a b", ("wires", 1, 0, ()))
        self.texts(LOOSE, "a b", ("wires", 0, 0, ((1, ("cross",)),) * 2))
        self.texts(LOOSE, "a b | 0 cross | 0 cross", ("wires", 0, 2, ()), "a b")
        self.texts(LOOSE, "a b | 0 cross | 0 cross", ("wires", 0, 1, ()))
        self.texts(LOOSE, "a b | 0 f", ("wires", 1, 0, ()), "a b | 0 f")
        self.texts(LOOSE, "a b b | 0 f", ("wires", 1, 0, ((0, ("cross",)),) * 2), "a b b | 0 f | 0 cross | 0 cross")
        three = ((0, ("cross",)), (1, ("cross",)), (0, ("cross",)))
        self.texts(LOOSE, "a a b | 1 cross | 0 cross | 1 cross", ("wires", 0, 3, three),
                   "a a b | 0 cross | 1 cross | 0 cross")
        self.texts(LOOSE, "a a b | 1 cross | 0 cross | 1 cross", ("wires", 0, 2, three))
        self.texts(LOOSE, "a", ("wires", 0, 0, ((1, ("cup", "a")), (0, ("cap",)))))

    def test_wires_that_bend(self):
        zigzag = ((1, ("cup", "a")), (0, ("cap",)))
        ring = ((0, ("cup", "a")), (0, ("cap",)))
        self.texts(BENT, "a", ("wires", 0, 0, zigzag), "a | 1 cup a | 0 cap")
        self.texts(BENT, "a | 1 cup a | 0 cap", ("wires", 0, 2, ((0, ("cup", "a")), (1, ("cap",)))),
                   "a | 0 cup a | 1 cap")
        self.texts(BENT, "a | 1 cup a | 0 cap", ("wires", 0, 2, ()), "a")
        self.texts(BENT, "b", ("wires", 0, 0, zigzag))
        self.texts(BENT, "a a | 0 cap", ("wires", 0, 1, ((0, ("cross",)), (0, ("cap",)))), "a a | 0 cross | 0 cap")
        self.texts(BENT, "a a | 0 cap | 0 cup a", ("wires", 0, 2, ()))
        self.texts(BENT, "a a", ("wires", 0, 0, ((0, ("cap",)), (0, ("cup", "a")))))
        self.texts(BENT, "a | 0 cup a | 0 cap", ("wires", 0, 2, ()))
        self.texts(BENT, "a", ("wires", 0, 0, ring))
        self.texts(BENT, "a | 0 cup a | 0 cap", ("wires", 0, 2, ((1, ("cup", "a")), (1, ("cap",)))),
                   "a | 1 cup a | 1 cap")
        self.texts(BENT, "a | 0 cup a | 0 cap", ("wires", 0, 2, ((1, ("cup", "b")), (1, ("cap",)))))
        self.texts(BENT, "a | 0 cup a | 0 cap", ("wires", 0, 2, ring + ring))
        self.texts(BENT, "- | 0 cup a | 0 cap | 0 cup b | 0 cap",
                   ("wires", 0, 4, ((0, ("cup", "b")), (0, ("cap",))) + ring),
                   "- | 0 cup b | 0 cap | 0 cup a | 0 cap")

    def test_wires_with_boxes(self):
        self.texts(LOOSE, "a b | 0 dot", ("wires", 0, 1, ()))
        self.texts(LOOSE, "a b | 0 dot", ("wires", 0, 1, ((0, ("box", "dot")),)))
        self.texts(LOOSE, "a b", ("wires", 0, 0, ((0, ("box", "dot")),)))
        self.texts(LOOSE, "a b | 0 cross | 0 dot | 0 cross", ("wires", 0, 3, ()))
        self.texts(LOOSE, "a b | 0 cross | 0 dot | 0 cross", ("wires", 0, 2, ((0, ("cross",)),)))
        self.texts(LOOSE, "a b | 0 cross | 0 dot | 0 cross", ("wires", 0, 1, ((0, ("cross",)), (1, ("box", "dot")))))

    def test_every_slide_by_chance(self):
        chance = random.Random(71)
        told = {}
        for stock in (LOOSE, BENT, FEET):
            for _ in range(60):
                picture = chance_picture(stock, chance, most_layers=10)[0]
                picture = slid_about(stock, picture, chance, 6)[0]
                slides = sided_slides(picture) + [chance_wires(stock, picture, chance) for _ in range(20)]
                for slide in slides:
                    was = self.judged(stock, picture, slide)
                    told[slide[0], was] = told.get((slide[0], was), 0) + 1
        self.assertEqual(len(told), 8)
        self.assertGreater(min(told.values()), 100)

    def test_what_back_slide_tells(self):
        picture = read_picture(BENT, "a a b | 0 g | 3 gone | 0 cross | 0 cross")
        self.assertEqual(back_slide(BENT, picture, ("turn", 0, "right")), ("turn", 0, "left"))
        self.assertEqual(back_slide(BENT, picture, ("past", 0, "right")), ("unpast", 0, "right"))
        two = ((0, ("cross",)),) * 2
        self.assertEqual(back_slide(BENT, picture, ("wires", 2, 2, ())), ("wires", 2, 0, two))
        self.assertEqual(back_slide(BENT, picture, ("wires", 4, 0, two)), ("wires", 4, 2, ()))


class Anything(Slides):
    """NoSlide and nothing else, of anything."""

    def right_slides(self):
        picture = read_picture(BENT, "a a b | 0 g | 3 gone | 1 cross | 2 cup a | 0 cross | 0 cross | 2 dot")
        past = slid(BENT, picture, ("past", 0, "right"))
        yield picture, ("turn", 0, "right")
        yield picture, ("past", 0, "right")
        yield past, ("unpast", 0, "right")
        yield picture, ("past", 6, "left")
        yield picture, ("wires", 2, 4, ((1, ("cross",)), (2, ("cup", "a"))))
        yield picture, ("wires", 4, 2, ())
        yield picture, ("wires", 7, 0, ((1, ("cross",)), (1, ("cross",))))

    def test_odd_things(self):
        for picture, slide in self.right_slides():
            self.assertTrue(self.judged(BENT, picture, slide))
            for thing in ODD + ((),):
                self.refused(BENT, picture, thing)
            for thing in with_odd(slide):
                self.judged(BENT, picture, thing)

    def test_truths_and_texts_for_numbers(self):
        for picture, slide in self.right_slides():
            for thing in (True, False, str(slide[1]), None, [slide[1]], (slide[1],)):
                self.refused(BENT, picture, slide[:1] + (thing,) + slide[2:])
            if slide[0] == "wires":
                for thing in (True, False, str(slide[2]), None):
                    self.refused(BENT, picture, slide[:2] + (thing,) + slide[3:])
        one = read_picture(BENT, "a a | 0 cross | 0 cross | 0 same")
        self.refused(BENT, one, ("wires", False, 2, ()))
        self.refused(BENT, one, ("wires", 0, 0, ((False, ("cross",)),) * 2))
        self.refused(BENT, one, ("past", True, "left"))

    def test_numbers_that_are_none_of_a_layer(self):
        for picture, slide in self.right_slides():
            many = len(picture[1])
            for number in (-1, -2, -many, many + 1, 10 * many, 10**39, -(10**39)):
                self.refused(BENT, picture, slide[:1] + (number,) + slide[2:])
            for number in range(-many, 2 * many):
                self.judged(BENT, picture, slide[:1] + (number,) + slide[2:])
                if slide[0] == "wires":
                    self.judged(BENT, picture, slide[:2] + (number,) + slide[3:])
            if slide[0] == "wires":
                for number in (-1, many + 1, 10**39, -(10**39)):
                    self.refused(BENT, picture, slide[:2] + (number,) + slide[3:])

    def test_other_kinds_and_sides(self):
        for picture, slide in self.right_slides():
            for kind in ("", "Turn", "turn ", "pass", "pair", "twine", "three", "box", "cross", 0, None, True,
                         ("turn",)):
                self.refused(BENT, picture, (kind,) + slide[1:])
            for side in ("", "Left", "up", "down", "left ", 0, None, True, ("left",), ["right"], "leftright"):
                self.judged(BENT, picture, slide[:2] + (side,) + slide[3:])
                if slide[0] != "wires":
                    self.refused(BENT, picture, slide[:2] + (side,))

    def test_a_part_more_or_less(self):
        for picture, slide in self.right_slides():
            for thing in with_more(slide):
                self.refused(BENT, picture, thing)
            for thing in less_and_twice(slide, ()):
                self.refused(BENT, picture, thing)
            if slide[0] == "wires":
                for k in range(len(slide[3])):
                    for thing in less_and_twice(slide, (3, k)) + less_and_twice(slide, (3, k, 1)):
                        self.refused(BENT, picture, thing)

    def test_lists_for_tuples(self):
        for picture, slide in self.right_slides():
            for thing in with_lists(slide):
                self.refused(BENT, picture, thing)

    def test_layers_that_are_none(self):
        picture = read_picture(BENT, "a a")
        for step in (("over",), ("under",), ("cross", "a"), ("cup",), ("cup", "zz"), ("cap", "a"), ("box", "zz"),
                     ("box",),
                     "cross", (), None, ["cross"], ("cross", None)):
            for place in (0, 1):
                self.refused(BENT, picture, ("wires", 0, 0, ((place, step), (place, step))))
        for place in (-1, 3, 10**39, -(10**39), True, "0", None):
            self.refused(BENT, picture, ("wires", 0, 0, ((place, ("cup", "a")), (place, ("cap",)))))
            self.refused(BENT, picture, ("wires", 0, 0, ((place, ("cross",)), (place, ("cross",)))))
        self.refused(LOOSE, picture, ("wires", 0, 0, ((1, ("cup", "a")), (0, ("cap",)))))

    def test_no_layers_at_all(self):
        picture = read_picture(BENT, "a a")
        for kind in ("turn", "past", "unpast"):
            for at in (-1, 0, 1):
                for side in SIDES:
                    self.refused(BENT, picture, (kind, at, side))

    def test_many_layers(self):
        picture = read_picture(BENT, "a a")
        self.done(BENT, picture, ("wires", 0, 0, ((0, ("cross",)),) * 1000), (("a", "a"), ((0, ("cross",)),) * 1000))
        self.refused(BENT, picture, ("wires", 0, 0, ((0, ("cross",)),) * 1001))
        cups = tuple((0, ("cup", "a")) for _ in range(500))
        self.refused(BENT, picture, ("wires", 0, 0, cups))
