import copy
import itertools
import random
import unittest

from oracles import all_matchings, chance_graph, fewest_turns, numbered_otherwise, slid_about
from samples import BENT, LOOSE, chance_picture, same
from slidewires.checker import has_fewest, turns_in, walks
from slidewires.drawing import drawn, plain
from slidewires.graphs import graph_of
from slidewires.papers import paper_for
from slidewires.pictures import boxes_of
from slidewires.picturetexts import read_picture

# Boxes of few kinds, so that heaps are often alike.
FEW = ("bent", ("a",), (("p", ("a",), ("a",)), ("q", (), ("a",)), ("s", (), ()), ("w", ("a", "a"), ())))


class PaperFor(unittest.TestCase):
    def paper(self, stock, one, other):
        before = copy.deepcopy((one, other))
        told = paper_for(stock, one, other)
        self.assertTrue(same(paper_for(stock, one, other), told))
        self.assertTrue(same((one, other), before))
        return told

    def alike(self, stock, one, other):
        paper = self.paper(stock, one, other)
        self.assertIs(type(paper), tuple)
        self.assertIs(walks(stock, one, other, paper), True)
        self.assertIs(has_fewest(stock, one, other, paper), True)
        self.assertEqual(turns_in(stock, one, paper), fewest_turns(graph_of(stock, one), graph_of(stock, other)))
        if stock[0] == "loose":
            self.assertNotIn("'cup'", repr(paper))
            self.assertNotIn("'cap'", repr(paper))
        return paper

    def unlike(self, stock, one, other):
        self.assertEqual(all_matchings(graph_of(stock, one), graph_of(stock, other)), ())
        self.assertIsNone(self.paper(stock, one, other))
        self.assertIsNone(self.paper(stock, other, one))

    def chance_pictures(self, chance, many, most_layers):
        for stock in (LOOSE, BENT, FEW):
            done = 0
            while done < many:
                picture = chance_picture(stock, chance, most_layers)[0]
                if len(boxes_of(picture)) <= 6:
                    yield stock, picture
                    done += 1

    def test_a_picture_and_itself(self):
        chance = random.Random(131)
        for stock, picture in self.chance_pictures(chance, 25, 30):
            self.assertEqual(turns_in(stock, picture, self.alike(stock, picture, picture)), 0)

    def test_slid_by_many_slides(self):
        chance = random.Random(132)
        for stock, picture in self.chance_pictures(chance, 40, 12):
            other, paper = slid_about(stock, picture, chance, 50)
            found = self.alike(stock, picture, other)
            self.assertLessEqual(turns_in(stock, picture, found), turns_in(stock, picture, paper))
            self.alike(stock, other, picture)

    def test_great_pictures(self):
        chance = random.Random(133)
        for stock, picture in self.chance_pictures(chance, 10, 45):
            self.alike(stock, picture, slid_about(stock, picture, chance, 60)[0])

    def test_the_plain_form(self):
        chance = random.Random(134)
        for stock, picture in self.chance_pictures(chance, 25, 20):
            self.alike(stock, picture, plain(stock, picture))

    def test_drawn_in_another_order(self):
        chance = random.Random(135)
        several = 0
        for stock in (BENT, FEW):
            for _ in range(60):
                graph = chance_graph(stock, chance, 6, 1)
                order = list(range(1, len(graph[2]) + 1))
                chance.shuffle(order)
                one, other = drawn(stock, graph), drawn(stock, numbered_otherwise(graph, order))
                self.alike(stock, one, other)
                several += len(all_matchings(graph, graph)) > 1
        self.assertGreater(several, 30)

    def test_several_matchings(self):
        dots = [read_picture(LOOSE, "a | " + " | ".join(f"0 {name}" for name in names)) for names in
                (("dot", "g", "dot", "dot"), ("g", "dot", "dot", "dot"), ("dot", "dot", "dot", "g"))]
        turns = [[turns_in(LOOSE, one, self.alike(LOOSE, one, other)) for other in dots] for one in dots]
        self.assertEqual(turns, [[0, 1, 2], [1, 0, 3], [2, 3, 0]])
        news = [read_picture(LOOSE, text) for text in ("- | 0 new | 0 new | 0 new", "- | 0 new | 1 new | 2 new")]
        self.assertEqual(turns_in(LOOSE, news[0], self.alike(LOOSE, *news)), 3)

    def test_heaps_alike_in_other_orders(self):
        heap = ("0 q", "0 q", "0 w")
        for shuffle in itertools.permutations(range(3)):
            one = read_picture(FEW, "- | " + " | ".join(heap * 2))
            other = read_picture(FEW, "- | 0 q | 0 q | 0 q | 0 q | 0 w | 0 w")
            third = drawn(FEW, numbered_otherwise(graph_of(FEW, other), [k + 1 for k in shuffle] + [4, 5, 6]))
            self.alike(FEW, one, other)
            self.alike(FEW, one, third)

    def test_pictures_without_boxes(self):
        for one, other in (("a b", "a b | 0 cross | 0 cross"),
                           ("a a a | 0 cross | 1 cross | 0 cross", "a a a | 1 cross | 0 cross | 1 cross")):
            for stock in (LOOSE, BENT):
                self.alike(stock, read_picture(stock, one), read_picture(stock, other))
        for one, other in (("a", "a | 1 cup a | 0 cap"), ("- | 0 cup a | 2 cup b | 0 cap | 0 cap",
                                                          "- | 0 cup b | 0 cap | 0 cup a | 0 cap"),
                           ("a a | 0 cap", "a a | 0 cross | 0 cap"), ("- | 0 cup a", "- | 0 cup a | 0 cross")):
            self.alike(BENT, read_picture(BENT, one), read_picture(BENT, other))

    def test_bent_about(self):
        for one, other in (("a b | 0 f | 0 g", "a b | 2 cup a | 0 f | 0 cross | 1 cap | 0 g"),
                           ("a | 0 g | 0 gone", "a | 0 cup b | 0 gone | 0 cross | 0 g | 1 cross | 0 cap"),
                           ("- | 0 new | 0 g", "- | 0 cup a | 0 g | 0 new | 0 cross | 1 cross | 2 cap"),
                           ("- | 0 cup a | 0 same | 0 cap",
                            "- | 0 cup a | 1 cup a | 0 cross | 1 same | 1 cap | 0 cap")):
            self.alike(BENT, read_picture(BENT, one), read_picture(BENT, other))

    def test_none_for_unlike_ones(self):
        for one, other in (("a", "b"), ("a", "a a"), ("a a", "a a | 0 cross"), ("a | 0 g", "a | 0 g | 0 cross"),
                           ("-", "- | 0 dot"),
                           ("a a | 0 same", "a a | 0 same | 0 same"), ("a a | 0 cross | 0 same", "a a | 0 same"),
                           ("- | 0 new | 0 new", "- | 0 new | 0 new | 0 same"), ("- | 0 dot", "- | 0 dot | 0 dot")):
            for stock in (LOOSE, BENT):
                self.unlike(stock, read_picture(stock, one), read_picture(stock, other))

    def test_rings_alone_or_a_heap_alone(self):
        for one, other in (("a", "a | 0 cup a | 0 cap"), ("a | 0 cup b | 0 cap", "a | 0 cup a | 0 cap"),
                           ("- | 0 cup a | 0 cap", "- | 0 cup a | 0 cap | 0 cup a | 0 cap"),
                           ("a", "a | 0 cup a | 0 same | 0 cap"),
                           ("- | 0 new | 0 new | 0 cap", "- | 0 cup b | 0 gone | 0 gone"),
                           ("- | 0 cup a | 0 same | 0 cap",
                            "- | 0 cup a | 0 cup a | 1 cross | 0 same | 1 cross | 0 cap | 0 cap")):
            self.unlike(BENT, read_picture(BENT, one), read_picture(BENT, other))

    def test_by_chance(self):
        chance = random.Random(136)
        told = {True: 0, False: 0}
        for _ in range(300):
            one, other = (drawn(FEW, chance_graph(FEW, chance, 3, 0)) for _ in range(2))
            if all_matchings(graph_of(FEW, one), graph_of(FEW, other)):
                self.alike(FEW, one, other)
                told[True] += 1
            else:
                self.unlike(FEW, one, other)
                told[False] += 1
        self.assertGreater(min(told.values()), 10)
