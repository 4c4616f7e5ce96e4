import copy
import itertools
import random
import unittest

from oracles import (
    all_matchings, all_numberings, chance_graph, fewest_turns, measures_apart, slid_about, tied_otherwise,
)
from samples import BENT, LOOSE, chance_picture, same
from slidewires.checker import has_fewest, is_measure, turns_in, walks
from slidewires.comparing import compared, measure_for
from slidewires.drawing import drawn, plain
from slidewires.graphs import graph_of
from slidewires.joining import behind, bent_down, bent_up, beside, crossed, filled
from slidewires.papers import paper_for
from slidewires.pictures import below_of, boxes_of
from slidewires.picturetexts import read_picture
from slidewires.spelling import spelled

FEW = ("bent", ("a",), (("p", ("a",), ("a",)), ("q", (), ("a",)), ("s", (), ()), ("w", ("a", "a"), ())))
KINDS = ("feet", "way", "rings", "heaps")


class Comparing(unittest.TestCase):
    def told(self, stock, one, other):
        before = copy.deepcopy((one, other))
        told = compared(stock, one, other)
        self.assertTrue(same(compared(stock, one, other), told))
        self.assertEqual((type(told), len(told)), (tuple, 2))
        measure = measure_for(stock, one, other)
        self.assertTrue(same(measure_for(stock, one, other), measure))
        self.assertTrue(same((one, other), before))
        paper = paper_for(stock, one, other)
        # Never neither, never both.
        self.assertEqual([paper is None, measure is None].count(True), 1)
        self.assertEqual(told[0], "alike" if measure is None else "unlike")
        self.assertTrue(same(told[1], paper if measure is None else measure))
        return told

    def alike(self, stock, one, other):
        kind, paper = self.told(stock, one, other)
        self.assertEqual(kind, "alike")
        self.assertIs(walks(stock, one, other, paper), True)
        self.assertIs(has_fewest(stock, one, other, paper), True)
        self.assertTrue(same(plain(stock, one), plain(stock, other)))
        if stock[0] == "loose":
            self.assertNotIn("'cup'", repr(paper))
            self.assertNotIn("'cap'", repr(paper))
        return paper

    def unlike(self, stock, one, other):
        kind, measure = self.told(stock, one, other)
        self.assertEqual(kind, "unlike")
        self.assertIs(is_measure(stock, one, other, measure), True)
        self.assertNotEqual(plain(stock, one), plain(stock, other))
        back = self.told(stock, other, one)
        self.assertEqual(back[0], "unlike")
        self.assertEqual(back[1][0], measure[0])
        self.assertIs(is_measure(stock, other, one, back[1]), True)
        if measure[0] == "way":
            self.assertEqual(len(back[1][2]), len(measure[2]))
        return measure

    def first_kind(self, stock, one, other):
        """Against all measures that are true, ways as long as the one that was told."""
        measure = self.unlike(stock, one, other)
        most = len(measure[2]) if measure[0] == "way" else 3
        true_ones = measures_apart(stock, graph_of(stock, one), graph_of(stock, other), most,
                                   lambda heap: spelled(stock, heap))
        self.assertIn(measure, true_ones)
        self.assertEqual(measure[0], min((found[0] for found in true_ones), key=KINDS.index))
        if measure[0] == "way":
            self.assertEqual(len(measure[2]), min(len(found[2]) for found in true_ones if found[0] == "way"))
        return measure


class Kinds(Comparing):
    def texts(self, kind, one, other, stocks=(BENT,)):
        for stock in stocks:
            measure = self.first_kind(stock, read_picture(stock, one), read_picture(stock, other))
            self.assertEqual(measure[0], kind)
        return measure

    def test_feet(self):
        both = (LOOSE, BENT)
        for one, other in (("a", "b"), ("a", "-"), ("a b", "b a"), ("a b", "a b | 0 cross"), ("a", "a | 0 g"),
                           ("- | 0 new", "-"),
                           ("- | 0 dot", "a")):
            self.assertEqual(self.texts("feet", one, other, both), ("feet",))
        self.assertEqual(self.texts("feet", "a a | 0 cap", "a a"), ("feet",))
        self.texts("feet", "a | 0 cup a | 0 cap | 0 dot", "b")

    def test_way(self):
        both = (LOOSE, BENT)
        self.assertEqual(self.texts("way", "a a", "a a | 0 cross", both)[2], ())
        self.assertEqual(self.texts("way", "a a | 0 same", "a a", both)[2], ())
        self.assertEqual(len(self.texts("way", "a a | 0 same", "a a | 0 same | 0 same", both)[2]), 1)
        self.texts("way", "a a | 0 same | 0 same | 0 cross | 0 same", "a a | 0 same | 0 cross | 0 same | 0 same", both)
        self.texts("way", "a a | 0 cap | 0 cup a", "a a")
        # A way goes ahead of rings and heaps.
        self.texts("way", "a a | 0 cup a | 0 cap | 0 dot", "a a | 0 cross")

    def test_long_ways(self):
        # Crossed behind the box i and behind the box j: from above there is a way of i steps, from below one of 6 - j.
        for stock in (LOOSE, BENT):
            straight = read_picture(stock, "a a" + " | 0 same" * 6)
            for i, j in itertools.combinations(range(1, 6), 2):
                parts = (" | 0 same" * i, " | 0 same" * (j - i), " | 0 same" * (6 - j))
                measure = self.first_kind(stock, straight, read_picture(stock, "a a" + " | 0 cross".join(parts)))
                self.assertEqual((measure[0], len(measure[2])), ("way", min(i, 6 - j)))

    def test_rings(self):
        self.assertEqual(self.texts("rings", "a | 0 cup a | 0 cap", "a"), ("rings", "a", 1, 0))
        self.assertEqual(self.texts("rings", "- | 0 cup b | 0 cap", "- | 0 cup b | 0 cap | 0 cup b | 0 cap"),
                         ("rings", "b", 1, 2))
        self.texts("rings", "- | 0 cup b | 0 cap", "- | 0 cup a | 0 cap")
        # Rings go ahead of heaps.
        self.texts("rings", "- | 0 dot | 0 cup a | 0 cap", "-")

    def test_heaps(self):
        both = (LOOSE, BENT)
        dot = ((), (), ("dot",), (), ())
        self.assertEqual(self.texts("heaps", "a | 0 dot", "a", both), ("heaps", dot, 1, 0))
        self.assertEqual(self.texts("heaps", "- | 0 dot", "- | 0 dot | 0 dot | 0 dot", both), ("heaps", dot, 1, 3))
        self.texts("heaps", "- | 0 new | 0 g | 0 gone | 0 new | 0 cross | 0 cap", "- | 0 dot")
        self.texts("heaps", "- | 0 new | 0 new | 0 cap", "- | 0 cup b | 0 gone | 0 gone")
        self.texts("heaps", "- | 0 cup a | 0 same | 0 cap | 0 cup a | 0 cap", "- | 0 cup a | 0 cap")

    def test_boxes_come_to_by_several_ways(self):
        # Both feet lead to one box, or to two boxes of its name: told where the ways on from there part.
        one = read_picture(BENT, "a a | 0 same | 0 cap | 0 cup a | 0 same | 0 cap")
        other = read_picture(BENT, "a a | 2 cup a | 1 cross | 0 same | 0 cap | 0 cross | 0 same | 0 cap")
        self.assertEqual(graph_of(BENT, one)[:3], graph_of(BENT, other)[:3])
        self.assertEqual(self.first_kind(BENT, one, other)[0], "way")


class Compared(Comparing):
    def test_by_chance(self):
        chance = random.Random(141)
        told = {}
        for stock in (BENT, FEW):
            for _ in range(250):
                graph = chance_graph(stock, chance, 3, 1)
                other = chance.choice((graph, tied_otherwise(stock, graph, chance), graph[:4] + ((),),
                                       chance_graph(stock, chance, 3, 1),
                                       graph[:2] + (graph[2] + (stock[2][2 if stock == FEW else 4][0],),) + graph[3:]))
                order, other = chance.choice(list(all_numberings(other)))
                one, two = drawn(stock, graph), drawn(stock, other)
                if all_matchings(graph, other):
                    self.alike(stock, one, two)
                    kind = "alike"
                else:
                    kind = self.first_kind(stock, one, two)[0]
                told[kind] = told.get(kind, 0) + 1
        self.assertEqual(set(told), set(KINDS) | {"alike"})
        self.assertGreater(min(told.values()), 15)

    def test_all_small_pictures(self):
        texts = ("a a", "a a | 0 cross", "a a | 0 cross | 0 cross", "a a | 0 same", "a a | 0 cross | 0 same",
                 "a a | 0 same | 0 cross",
                 "a a | 0 dot", "a a | 2 dot", "a a | 1 dot | 0 cross", "a a | 0 same | 1 dot", "a a | 1 dot | 0 same",
                 "a a | 0 same | 0 same", "a a | 0 dot | 2 dot")
        bent = ("a a | 0 cap | 0 cup a", "a a | 2 cup a | 1 cap", "a a | 2 cup a | 2 cap", "a a | 0 cup a | 0 cap",
                "a a | 0 cup b | 0 cap",
                "a a | 0 cap | 0 cup a | 0 same", "a a | 0 same | 0 cap | 0 cup a", "a a | 1 cup a | 1 same | 1 cap")
        for stock, some in ((LOOSE, texts), (BENT, texts + bent)):
            pictures = [read_picture(stock, text) for text in some]
            for one, other in itertools.product(pictures, repeat=2):
                if all_matchings(graph_of(stock, one), graph_of(stock, other)):
                    self.alike(stock, one, other)
                else:
                    self.first_kind(stock, one, other)

    def test_slid_about(self):
        chance = random.Random(142)
        for stock in (LOOSE, BENT, FEW):
            done = 0
            while done < 25:
                picture = chance_picture(stock, chance, 14)[0]
                if len(boxes_of(picture)) <= 6:
                    other, paper = slid_about(stock, picture, chance, 30)
                    found = self.alike(stock, picture, other)
                    self.assertEqual(turns_in(stock, picture, found),
                                     fewest_turns(graph_of(stock, picture), graph_of(stock, other)))
                    done += 1

    def test_two_by_chance(self):
        chance = random.Random(143)
        for stock in (LOOSE, BENT):
            pictures = [chance_picture(stock, chance, 6)[0] for _ in range(30)]
            for one, other in itertools.combinations(pictures, 2):
                if all_matchings(graph_of(stock, one), graph_of(stock, other)):
                    self.alike(stock, one, other)
                else:
                    self.unlike(stock, one, other)


class PutTogether(Comparing):
    def wires(self, sorts):
        return (sorts, ())

    def pictures(self, stock, chance, many):
        found = []
        while len(found) < many:
            picture = chance_picture(stock, chance, 6, 6)[0]
            if len(boxes_of(picture)) <= 3 and len(picture[0]) <= 3:
                found.append(picture)
        return found

    def test_beside_in_either_turn(self):
        chance = random.Random(144)
        for stock in (LOOSE, BENT):
            for _ in range(20):
                one, other = self.pictures(stock, chance, 2)
                below, above = self.wires(below_of(stock, one)), self.wires(one[0])
                right, right_above = self.wires(below_of(stock, other)), self.wires(other[0])
                first = behind(stock, beside(stock, one, right_above), beside(stock, below, other))
                second = behind(stock, beside(stock, above, other), beside(stock, one, right))
                self.alike(stock, first, second)
                self.alike(stock, first, beside(stock, one, other))

    def test_brought_past_one_another(self):
        chance = random.Random(145)
        for stock in (LOOSE, BENT):
            for _ in range(20):
                one, other = self.pictures(stock, chance, 2)
                there = behind(stock, beside(stock, one, other),
                               crossed(stock, below_of(stock, one), below_of(stock, other)))
                back = behind(stock, crossed(stock, one[0], other[0]), beside(stock, other, one))
                self.alike(stock, there, back)

    def test_bent_up_and_down(self):
        chance = random.Random(146)
        done = 0
        for _ in range(60):
            picture = self.pictures(BENT, chance, 1)[0]
            if below_of(BENT, picture):
                self.alike(BENT, bent_down(BENT, bent_up(BENT, picture)), picture)
                done += 1
            if picture[0]:
                self.alike(BENT, bent_up(BENT, bent_down(BENT, picture)), picture)
                done += 1
        self.assertGreater(done, 50)

    def test_filled(self):
        chance = random.Random(147)
        inner = {"same": ("a a | 0 cross", "a a | 0 g | 0 gone | 1 g | 1 gone",
                          "a a | 1 new | 0 same | 1 cap | 1 new | 0 same"),
                 "g": ("a | 1 new | 0 cross | 0 g | 2 new | 1 same | 1 cap", "a | 0 cup b | 0 gone"),
                 "dot": ("- | 0 new | 0 new | 0 cap", "-")}
        for name, texts in inner.items():
            for text in texts * 3:
                fill = read_picture(BENT, text)
                picture = chance_picture(BENT, chance, 8)[0]
                while name not in boxes_of(picture) or len(boxes_of(picture)) > 3:
                    picture = chance_picture(BENT, chance, 8)[0]
                other = slid_about(BENT, picture, chance, 12)[0]
                self.alike(BENT, filled(BENT, picture, name, fill), filled(BENT, other, name, fill))
                refilled = slid_about(BENT, fill, chance, 8)[0]
                self.alike(BENT, filled(BENT, picture, name, fill), filled(BENT, picture, name, refilled))

    def test_filled_by_unlike_ones(self):
        picture = read_picture(BENT, "a a | 0 same | 0 cross | 0 same")
        crossing, straight = read_picture(BENT, "a a | 0 cross"), read_picture(BENT, "a a")
        self.assertEqual(self.unlike(BENT, picture, filled(BENT, picture, "same", straight))[0], "way")
        self.assertEqual(self.unlike(BENT, filled(BENT, picture, "same", read_picture(BENT, "a a | 0 dot")),
                                     filled(BENT, picture, "same", straight))[0], "heaps")
        self.alike(BENT, filled(BENT, picture, "same", crossing), filled(BENT, picture, "same", straight))

    def test_more_boxes_than_are_handed_in(self):
        picture = read_picture(LOOSE, "a a a | 0 same | 1 same | 0 same | 1 same")
        inner = read_picture(LOOSE, "a a | 0 g | 0 gone | 1 g | 1 gone")
        other = read_picture(LOOSE, "a a | 1 g | 0 g | 0 gone | 1 gone")
        one, two = filled(LOOSE, picture, "same", inner), filled(LOOSE, picture, "same", other)
        self.assertEqual(len(boxes_of(one)), 16)
        kind, paper = compared(LOOSE, one, two)
        self.assertEqual(kind, "alike")
        self.assertIs(has_fewest(LOOSE, one, two, paper), True)
        self.assertEqual(turns_in(LOOSE, one, paper), 2 * 4)

    def test_many_heaps_alike(self):
        inner = read_picture(FEW, "- | 0 q | 0 q | 0 w")
        one = filled(FEW, read_picture(FEW, "- | 0 s | 0 s | 0 s | 0 s"), "s", inner)
        other = read_picture(FEW, "-" + " | 0 q" * 8 + " | 0 w" * 4)
        kind, paper = compared(FEW, one, other)
        self.assertEqual(kind, "alike")
        self.assertIs(has_fewest(FEW, one, other, paper), True)
        # The boxes q stay in their order; each w goes behind the boxes q below it, and the last is first to take.
        self.assertEqual(turns_in(FEW, one, paper), 6 + 4 + 2 + 6)
