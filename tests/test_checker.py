import copy
import random
import unittest

from oracles import (
    all_matchings, chance_graph, down, fewest_turns, measures_apart, numbered_otherwise, slid_about, slid_anew,
    tied_otherwise, ties, up,
)
from samples import (
    BENT, LOOSE, ODD, chance_picture, less_and_twice, put_at, same, with_lists, with_more, with_odd,
)
from slidewires.checker import has_fewest, is_measure, turns_in, walks
from slidewires.drawing import drawn
from slidewires.graphs import graph_of
from slidewires.picturetexts import read_picture
from slidewires.spelling import spelled


def walked_anew(stock, picture, thing):
    """The picture come to and the turns of two boxes, or None."""
    if type(thing) is not tuple:
        return None
    turns = 0
    for slide in thing:
        then = slid_anew(stock, picture, slide)
        if then is None:
            return None
        if slide[0] == "turn":
            turns += {step[0] for place, step in picture[1][slide[1]:slide[1] + 2]} == {"box"}
        picture = then
    return picture, turns


class Papers(unittest.TestCase):
    def judged(self, stock, one, other, thing):
        before = copy.deepcopy((one, other, thing))
        found = walked_anew(stock, one, thing)
        walked = found is not None and found[0] == other
        fewest = walked and found[1] == fewest_turns(graph_of(stock, one), graph_of(stock, other))
        for _ in range(2):
            self.assertIs(walks(stock, one, other, thing), walked, thing)
            self.assertIs(has_fewest(stock, one, other, thing), fewest, thing)
        self.assertTrue(same((one, other, thing), before))
        return walked, fewest

    def samples(self, many, seed, slides=12):
        chance = random.Random(seed)
        for stock in (LOOSE, BENT):
            for _ in range(many):
                one = chance_picture(stock, chance, most_layers=9)[0]
                other, paper = slid_about(stock, one, chance, chance.randrange(slides))
                yield chance, stock, one, other, paper

    def test_without_slides(self):
        for chance, stock, one, other, paper in self.samples(40, 81):
            self.assertEqual(self.judged(stock, one, one, ()), (True, True))
            self.assertEqual(self.judged(stock, one, other, ()), (one == other, one == other))
            self.assertEqual(turns_in(stock, one, ()), 0)

    def test_papers(self):
        fewest = {True: 0, False: 0}
        for chance, stock, one, other, paper in self.samples(60, 82):
            told = self.judged(stock, one, other, paper)
            self.assertTrue(told[0])
            fewest[told[1]] += 1
            before = copy.deepcopy((one, paper))
            self.assertTrue(same(turns_in(stock, one, paper), walked_anew(stock, one, paper)[1]))
            self.assertTrue(same((one, paper), before))
        self.assertGreater(min(fewest.values()), 3)

    def test_one_behind_the_other(self):
        for chance, stock, one, other, paper in self.samples(30, 83):
            third, more = slid_about(stock, other, chance, 8)
            self.assertTrue(self.judged(stock, one, third, paper + more)[0])
            self.assertEqual(turns_in(stock, one, paper + more),
                             turns_in(stock, one, paper) + turns_in(stock, other, more))
            self.judged(stock, one, third, more + paper)

    def test_a_slide_too_much_too_few_or_exchanged(self):
        refused = 0
        for chance, stock, one, other, paper in self.samples(25, 84):
            for k in range(len(paper)):
                for thing in (paper[:k] + paper[k + 1:], paper[:k + 1] + paper[k:],
                              paper[:k] + paper[k:k + 2][::-1] + paper[k + 2:], paper[:k], paper[k:]):
                    refused += not self.judged(stock, one, other, thing)[0]
        self.assertGreater(refused, 300)

    def test_another_end(self):
        for chance, stock, one, other, paper in self.samples(40, 85):
            ends = [one, (other[0] + ("a",), other[1]), (other[0], other[1] + ((0, ("box", "dot")),)),
                    (other[0], other[1][:-1])]
            for end in ends + [chance_picture(stock, chance)[0]]:
                if end != other:
                    self.assertIs(walks(stock, one, end, paper), False)
                    self.assertIs(has_fewest(stock, one, end, paper), False)

    def test_of_anything(self):
        one = read_picture(BENT, "a a b | 0 g | 3 gone | 1 cross | 0 dot")
        paper = (("turn", 0, "right"), ("past", 1, "right"), ("wires", 6, 0, ((0, ("cross",)),) * 2))
        other, turns = walked_anew(BENT, one, paper)
        self.assertEqual(turns, 1)
        self.assertEqual(self.judged(BENT, one, other, paper), (True, True))
        for thing in ODD:
            self.judged(BENT, one, other, thing)
            self.assertIs(walks(BENT, one, one, thing), False)
        for thing in with_odd(paper) + with_lists(paper) + with_more(paper) + less_and_twice(paper, ()):
            self.judged(BENT, one, other, thing)
        for thing in with_lists(paper):
            self.assertIs(walks(BENT, one, other, thing), False)
        for thing in with_lists((("turn", 0, "left"),)) + ["", "turn", {}, [], None, 0, False, ((),), (((),),)]:
            self.assertIs(walks(BENT, one, one, thing), False)
            self.assertIs(has_fewest(BENT, one, one, thing), False)

    def test_truths_for_numbers(self):
        one = read_picture(BENT, "a a | 0 dot | 0 dot | 0 cross | 0 cross")
        other = read_picture(BENT, "a a | 0 dot | 0 dot")
        self.assertEqual(self.judged(BENT, one, one, (("turn", 0, "left"),)), (True, False))
        self.assertEqual(self.judged(BENT, one, one, (("turn", False, "left"),)), (False, False))
        self.assertEqual(self.judged(BENT, one, other, (("wires", 2, 2, ()),)), (True, True))
        self.assertEqual(self.judged(BENT, one, one, (("wires", True + 1, False, ()),)), (False, False))

    def test_long_ones(self):
        one = read_picture(BENT, "a a b b | 1 dot | 1 dot | 0 same | 2 gone")
        there_and_back = (("past", 0, "left"), ("past", 0, "right")) * 200
        self.assertEqual(self.judged(BENT, one, one, there_and_back), (True, True))
        turned = (("turn", 0, "left"),) * 400
        self.assertEqual(self.judged(BENT, one, one, turned), (True, False))
        self.assertEqual(turns_in(BENT, one, turned), 400)
        growing = tuple(("past", 2 * k, "right") for k in range(2)) + (("wires", 0, 0, ((0, ("cross",)),) * 20),) * 200
        self.judged(BENT, one, one, growing)

    def test_turns_of_two_boxes_alone_are_counted(self):
        one = read_picture(BENT, "a a b | 0 dot | 0 cross | 2 gone | 0 same | 1 cup a | 1 cap")
        paper = (("turn", 0, "right"), ("turn", 1, "right"), ("turn", 2, "left"), ("past", 0, "right"),
                 ("wires", 0, 0, ()))
        for many in range(len(paper)):
            found = walked_anew(BENT, one, paper[:many])
            if found is not None:
                self.assertEqual(turns_in(BENT, one, paper[:many]), found[1])
        self.assertEqual(turns_in(BENT, one, (("turn", 0, "right"),)), 0)
        self.assertEqual(turns_in(BENT, one, (("turn", 2, "left"),)), 1)
        self.assertEqual(turns_in(BENT, one, (("turn", 1, "right"), ("turn", 1, "left"), ("turn", 2, "left"))), 1)
        self.assertEqual(turns_in(BENT, one, (("turn", 2, "left"), ("turn", 2, "right"))), 2)

    def test_the_fewest_where_boxes_are_alike(self):
        one = read_picture(LOOSE, "- | 0 dot | 0 dot | 0 dot")
        self.assertEqual(self.judged(LOOSE, one, one, ()), (True, True))
        self.assertEqual(self.judged(LOOSE, one, one, (("turn", 0, "left"), ("turn", 0, "left"))), (True, False))
        self.assertEqual(self.judged(LOOSE, one, one, (("turn", 1, "right"),)), (True, False))
        one = read_picture(LOOSE, "a | 0 dot | 0 g | 0 dot")
        other = read_picture(LOOSE, "a | 0 g | 0 dot | 0 dot")
        self.assertEqual(self.judged(LOOSE, one, other, (("turn", 0, "left"),)), (False, False))
        self.assertEqual(self.judged(LOOSE, one, other, (("turn", 0, "right"),)), (True, True))
        self.assertEqual(self.judged(LOOSE, one, other, (("turn", 0, "right"), ("turn", 1, "left"))), (True, False))

    def test_the_fewest_where_they_are_not(self):
        # The two boxes new can't be matched otherwise: they lead to other feet.
        one = read_picture(LOOSE, "- | 0 new | 0 new")
        other = read_picture(LOOSE, "- | 0 new | 1 new")
        self.assertEqual(self.judged(LOOSE, one, other, (("turn", 0, "left"),)), (True, True))
        self.assertEqual(self.judged(LOOSE, one, other, (("turn", 0, "left"), ("turn", 0, "right"),
                                                         ("turn", 0, "left"))),
                         (True, False))
        self.assertEqual(self.judged(LOOSE, one, other, ()), (False, False))

    def test_the_fewest_of_many_matchings(self):
        # Heaps of two boxes that are alike, in another order: found against all matchings.
        chance = random.Random(86)
        stock = ("bent", ("a",), (("p", ("a",), ("a",)), ("q", (), ("a",)), ("s", (), ())))
        many = []
        for _ in range(60):
            graph = chance_graph(stock, chance, 6, 0)
            order = list(range(1, len(graph[2]) + 1))
            chance.shuffle(order)
            other = numbered_otherwise(graph, order)
            one, two = drawn(stock, graph), drawn(stock, other)
            least = fewest_turns(graph, other)
            many.append(len(all_matchings(graph, other)))
            paper = bubbled(stock, one, chance, least + chance.randrange(3))
            if paper is not None:
                self.judged(stock, one, paper[0], paper[1])
            self.assertIs(has_fewest(stock, one, two, ()), one == two)
        self.assertGreater(max(many), 6)


def bubbled(stock, picture, chance, many):
    """Slid about till so many turns of two boxes are done."""
    paper = ()
    for _ in range(60):
        then, more = slid_about(stock, picture, chance, 3)
        turns = walked_anew(stock, picture, more)[1]
        if turns <= many:
            picture, paper, many = then, paper + more, many - turns
        if many == 0:
            return picture, paper
    return None


MEASURED = {
    "way": ("a a b | 0 same | 1 f | 0 g", "a a b | 0 same | 0 cross | 1 f | 0 g"),
    "deep": ("a | 0 g | 0 gone | 0 g | 0 gone | 0 g",
             "a | 0 g | 0 gone | 0 g | 0 gone | 0 new | 0 same | 0 cap | 0 new | 0 g"),
    "rings": ("a | 0 cup a | 0 cap | 0 cup b | 0 cap", "a | 0 cup a | 0 cap | 0 cup a | 0 cap"),
    "heaps": ("a | 0 dot | 0 cup a | 0 same | 0 cap | 0 dot", "a | 0 dot | 0 cup a | 0 same | 0 cross | 0 cap"),
    "twice": ("- | 0 cup a | 0 same | 0 cap", "- | 0 cup a | 0 same | 0 cap | 0 cup a | 0 same | 0 cap"),
    "none": ("a a | 0 cross | 0 cross", "a a"),
    "feet": ("a a", "a a | 0 cap"),
    "above": ("a b | 0 f", "a"),
    "below": ("a b", "a b | 0 cross"),
}


class Measures(unittest.TestCase):
    def judged(self, stock, one, other, thing, true_ones):
        before = copy.deepcopy((one, other, thing))
        expected = any(same(thing, measure) for measure in true_ones)
        for _ in range(2):
            self.assertIs(is_measure(stock, one, other, thing), expected, thing)
        self.assertTrue(same((one, other, thing), before))
        return expected

    def apart(self, stock, one, other, most=4):
        return measures_apart(stock, graph_of(stock, one), graph_of(stock, other), most,
                              lambda heap: spelled(stock, heap))

    def pairs(self):
        for name, texts in MEASURED.items():
            one, other = (read_picture(BENT, text) for text in texts)
            yield name, one, other, self.apart(BENT, one, other)

    def test_each_kind_where_it_is_true(self):
        kinds = {}
        for name, one, other, true_ones in self.pairs():
            kinds[name] = {measure[0] for measure in true_ones}
            for measure in true_ones:
                self.assertTrue(self.judged(BENT, one, other, measure, true_ones))
                back = measure
                if measure[0] != "feet":
                    back = measure[:-2] + (measure[-1], measure[-2])
                self.assertIs(is_measure(BENT, other, one, back), True)
                self.assertIs(is_measure(BENT, other, one, measure), measure == ("feet",))
                self.assertIs(is_measure(BENT, one, one, measure), False)
        self.assertEqual(kinds["way"], {"way"})
        self.assertEqual(kinds["rings"], {"rings"})
        self.assertEqual(kinds["heaps"], {"heaps"})
        self.assertEqual(kinds["twice"], {"heaps"})
        self.assertEqual(kinds["none"], set())
        for name in ("feet", "above", "below"):
            self.assertEqual(kinds[name], {"feet"})

    def test_as_written(self):
        one, other = (read_picture(BENT, text) for text in MEASURED["rings"])
        for thing, expected in ((("rings", "a", 1, 2), True), (("rings", "b", 1, 0), True),
                                (("rings", "a", 2, 1), False),
                                (("rings", "a", 1, 1), False), (("rings", "b", 1, 1), False),
                                (("rings", "b", 0, 1), False),
                                (("rings", "zz", 0, 1), False), (("rings", "zz", 0, 0), False), (("feet",), False)):
            self.assertIs(is_measure(BENT, one, other, thing), expected, thing)
        one, other = read_picture(BENT, "a a"), read_picture(BENT, "a a | 0 cross")
        straight = ("way", up(0, 0), (), ("", "down", 0), ("", "down", 1))
        self.assertIs(is_measure(BENT, one, other, straight), True)
        self.assertIs(is_measure(LOOSE, one, other, straight), True)
        self.assertIs(is_measure(BENT, other, one, straight), False)
        self.assertIs(is_measure(BENT, one, other, ("way", up(0, 2), (), ("", "down", 0), ("", "down", 1))), False)
        self.assertIs(is_measure(BENT, one, other, ("way", down(0, 1), (), ("", "up", 1), ("", "up", 0))), True)

    def test_feet_where_they_are_not_the_same(self):
        for name, one, other, true_ones in self.pairs():
            self.assertIs(is_measure(BENT, one, other, ("feet",)), name in ("feet", "above", "below"))
        one, other = read_picture(BENT, "a | 0 dot | 0 cup a | 0 cap"), read_picture(BENT, "b")
        self.assertIs(is_measure(BENT, one, other, ("rings", "a", 1, 0)), False)
        self.assertIs(is_measure(BENT, one, other, ("heaps", ((), (), ("dot",), (), ()), 1, 0)), False)
        self.assertIs(is_measure(BENT, one, read_picture(BENT, "a"), ("rings", "a", 1, 0)), True)
        self.assertIs(is_measure(BENT, one, read_picture(BENT, "a"), ("heaps", ((), (), ("dot",), (), ()), 1, 0)), True)

    def test_by_chance(self):
        chance = random.Random(91)
        told = {}
        for _ in range(150):
            graph = chance_graph(BENT, chance, 3, 2)
            others = [tied_otherwise(BENT, graph, chance), graph[:4] + ((),), chance_graph(BENT, chance)]
            others.append(put_at(graph, (2,), graph[2] + ("dot",)))
            for other in others:
                true_ones = self.apart(BENT, drawn(BENT, graph), drawn(BENT, other), 3)
                for measure in true_ones[:20]:
                    self.judged(BENT, drawn(BENT, graph), drawn(BENT, other), measure, true_ones)
                    self.judged(BENT, drawn(BENT, other), drawn(BENT, graph), measure, [("feet",)])
                    told[measure[0]] = told.get(measure[0], 0) + 1
        self.assertEqual(set(told), {"feet", "way", "rings", "heaps"})

    def test_one_thing_put_otherwise(self):
        for name, one, other, true_ones in self.pairs():
            for measure in true_ones[:3] + true_ones[-1:]:
                for thing in with_odd(measure):
                    self.judged(BENT, one, other, thing, true_ones)
                for thing in with_lists(measure) + with_more(measure):
                    self.assertFalse(self.judged(BENT, one, other, thing, true_ones))
                for thing in less_and_twice(measure, ()):
                    self.judged(BENT, one, other, thing, true_ones)

    def test_ways_put_otherwise(self):
        for name, lengths in (("way", {1}), ("deep", {1, 2, 4})):
            one, other = (read_picture(BENT, text) for text in MEASURED[name])
            true_ones = self.apart(BENT, one, other, 6)
            self.assertTrue(lengths <= {len(measure[2]) for measure in true_ones})
            for measure in true_ones[:12]:
                start, steps, here, there = measure[1:]
                things = [put_at(measure, (1,), foot) for foot in (up(0, 1), up(0, 9), up(1, 0), down(0, -1),
                                                                   (0, "left", 0))]
                things += [put_at(measure, (1, 0), number) for number in (1, -1, False, "0")]
                things += [put_at(measure, (2,), steps + (step,))
                           for step in (("up", 0), ("down", 1), ("up", 7), ("in", 0))]
                things += less_and_twice(measure, (2,))
                things += [put_at(measure, (3,), there), put_at(measure, (4,), here), measure[:3] + (there, here)]
                things += [put_at(measure, (end, 2), number) for end in (3, 4) for number in (0, 1, 2, -1, True, False)]
                things += [put_at(measure, (end, 0), word) for end in (3, 4) for word in ("", "f", "zz", None, 0)]
                for k in range(len(steps)):
                    things += [put_at(measure, (2, k), step) for step in (("up", 0), ("down", 0), ("up", -1),
                                                                          ("up", True),
                                                                          ("up", 0, 0), ("up",), up(1, 0), "up", None)]
                for thing in things:
                    self.judged(BENT, one, other, thing, true_ones)

    def test_a_way_may_not_go_on_from_the_picture_or_where_they_part(self):
        one, other = read_picture(BENT, "a b | 0 f | 0 g"), read_picture(BENT, "a b | 0 f | 0 g | 0 cross | 0 cross")
        self.assertIs(is_measure(BENT, one, other, ("way", up(0, 0), (("down", 0),), ("g", "up", 0), ("g", "up", 0))),
                      False)
        one, other = read_picture(BENT, "a a | 0 same"), read_picture(BENT, "a a | 0 same | 0 cross")
        start = up(0, 0)
        first = ("way", start, (("down", 0),), ("", "down", 0), ("", "down", 1))
        self.assertIs(is_measure(BENT, one, other, first), True)
        self.assertIs(is_measure(BENT, one, other, put_at(first, (2,), (("down", 0), ("up", 0)))), False)
        one, other = read_picture(BENT, "a a | 0 same"), read_picture(BENT, "a a | 0 cross | 0 same")
        self.assertIs(is_measure(BENT, one, other, ("way", start, (), ("same", "up", 0), ("same", "up", 1))), True)
        self.assertIs(is_measure(BENT, one, other, ("way", start, (("up", 0),), ("", "up", 0), ("", "up", 1))), False)

    def test_heaps_put_otherwise(self):
        one, other = read_picture(BENT, "a | 0 dot"), read_picture(BENT,
                                                                   "a | 0 cup a | 0 cap | 0 cup a | 0 same | 0 cap")
        looped = ((), (), ("same",), ties((up(1, 0), up(1, 1)), (down(1, 0), down(1, 1))), ())
        dot = ((), (), ("dot",), (), ())
        self.assertEqual({measure[0] for measure in self.apart(BENT, one, other)}, {"rings", "heaps"})
        for thing, expected in (
            (("heaps", looped, 0, 1), True), (("heaps", dot, 1, 0), True), (("heaps", looped, 1, 0), False),
            (("heaps", dot, 1, 1), False), (("heaps", dot, 0, 0), False), (("heaps", dot, True, 0), False),
            (("heaps", dot, 1, False), False), (("heaps", ((), (), ("dot", "dot"), (), ()), 0, 1), False),
            (("heaps", ((), (), ("dot", "dot"), (), ()), 1, 0), False), (("heaps", ((), (), (), (), ()), 0, 1), False),
            (("heaps", ((), (), (), (), ()), 1, 0), False), (("heaps", dot[:4] + ((("a", 1),),), 1, 0), False),
            (("heaps", (("a",), ("a",), ("dot",), ties((up(0, 0), down(0, 0))), ()), 1, 0), False),
            (("heaps", looped[:3] + (((up(True, 0), up(1, 1)), looped[3][1]), ()), 0, 1), False),
            (("heaps", ((), (), ("zz",), (), ()), 0, 1), False), (("heaps", "dot", 1, 0), False),
        ):
            self.assertIs(is_measure(BENT, one, other, thing), expected, thing)

    def test_a_heap_that_is_not_spelled(self):
        one, other = read_picture(BENT, "- | 0 new | 0 g | 1 new | 0 gone | 0 cap"), read_picture(BENT, "-")
        graph = graph_of(BENT, one)
        spelt = spelled(BENT, graph)
        told = 0
        for order in ((1, 2, 3, 4), (4, 3, 2, 1), (2, 1, 4, 3), (2, 4, 1, 3), (3, 1, 4, 2)):
            heap = numbered_otherwise(graph, order)
            self.assertIs(is_measure(BENT, one, other, ("heaps", heap, 1, 0)), heap == spelt)
            told += heap != spelt
        self.assertGreater(told, 2)
        self.assertIs(is_measure(BENT, one, other, ("heaps", spelt, 1, 0)), True)

    def test_of_anything(self):
        for name, one, other, true_ones in self.pairs():
            for thing in ODD + ("feet", ["feet"], ("feet", None), ("Feet",), ("way",), ("rings",), ("heaps",), ()):
                self.assertIs(is_measure(BENT, one, other, thing), False, thing)
            for kind in ("feet", "way", "rings", "heaps", "word"):
                for odd in ODD:
                    for parts in ((odd,), (odd, 0), (odd, 0, 1), (odd, odd, odd), (up(0, 0), odd, odd, odd),
                                  (up(0, 0), (odd,), ("", "up", 0), odd), (odd, (), ("", "up", 0), ("", "up", 1))):
                        self.assertIs(is_measure(BENT, one, other, (kind,) + parts), False)
