import copy
import random
import unittest

from oracles import chance_graph, slid_about
from samples import BENT, LOOSE, chance_picture, same
from slidewires.checker import has_fewest, turns_in, walks
from slidewires.drawing import drawn
from slidewires.fronting import fronted
from slidewires.graphs import graph_of
from slidewires.pictures import boxes_of, is_picture
from slidewires.picturetexts import read_picture
from slidewires.settling import settled

# Pictures with all boxes at place 0, in bent stocks; those in loose ones bear no bends.
LAID = (
    "-", "a", "a b", "a b | 0 cross", "a b | 0 cross | 0 cross", "a a b | 0 cross | 1 cross | 0 cross | 1 cross",
    "a a b b | 2 cross | 0 cross | 1 cross | 1 cross | 0 cross", "a b | 0 f", "a b | 0 cross | 0 cross | 0 f",
    "a b a | 0 f | 0 cross | 0 cross | 0 same | 0 cross", "- | 0 dot | 0 dot | 0 new | 0 dot",
    "a a a | 0 same | 1 cross | 0 cross | 0 same | 1 cross | 0 same", "b b | 0 gone | 0 gone",
    "a a | 0 g | 1 cross | 0 gone",
)
BENT_ONES = (
    "a a | 0 cap", "- | 0 cup b", "a a | 0 cap | 0 cup a", "a | 1 cup a | 0 cap", "a | 0 cup a | 1 cap",
    "a | 1 cup a | 3 cup a | 2 cap | 0 cap", "a | 1 cup a | 1 cross | 0 cap", "a a | 0 cross | 0 cap",
    "- | 0 cup a | 0 cross",
    "- | 0 cup a | 0 cap", "- | 0 cup b | 0 cross | 0 cap | 0 cup a | 0 cap | 0 cup b | 0 cap",
    "a a a a | 1 cap | 0 cap", "a a a a | 1 cross | 0 cap | 0 cap", "- | 0 cup a | 1 cup b | 0 cup b",
    "a b | 0 f | 1 cup a | 0 cap", "a b | 2 cup b | 1 cap | 0 f", "a b | 2 cup b | 0 f | 1 cap",
    "- | 0 cup a | 0 same | 0 cap", "- | 0 cup a | 0 g | 1 cap", "- | 0 cup a | 0 same | 1 cup b | 1 cap | 0 cap",
    # Feet tied above to above and below to below; wires that go down beside boxes and come up again.
    "- | 0 cup a | 1 cup a | 0 same | 0 same | 1 cap | 0 cap", "a a | 0 dot | 0 cap | 0 dot | 0 cup b | 0 dot",
    "- | 0 new | 0 dot | 0 new | 0 dot | 0 cap", "- | 0 cup b | 0 gone | 0 dot | 0 gone",
    "a | 1 cup a | 0 g | 1 cap | 0 gone | 0 dot",
    "a | 0 dot | 1 cup a | 0 dot | 0 cap | 0 dot", "- | 0 cup a | 0 dot | 0 cap | 0 cup b | 0 dot | 0 dot | 0 cap",
    "b | 0 cup a | 0 same | 1 cross | 0 cross | 0 gone | 0 same | 0 cap | 0 cup b | 0 gone",
)


class Settled(unittest.TestCase):
    def check(self, stock, picture):
        before = copy.deepcopy(picture)
        told = settled(stock, picture)
        self.assertTrue(same(settled(stock, picture), told))
        self.assertTrue(same(picture, before))
        self.assertEqual((type(told), len(told), type(told[1])), (tuple, 2, tuple))
        then, paper = told
        graph = graph_of(stock, picture)
        self.assertTrue(same(then, drawn(stock, graph)))
        self.assertTrue(same(graph_of(stock, then), graph))
        self.assertIs(is_picture(stock, then), True)
        self.assertIs(walks(stock, picture, then, paper), True)
        self.assertIs(has_fewest(stock, picture, then, paper), True)
        self.assertEqual(turns_in(stock, picture, paper), 0)
        again = settled(stock, then)
        self.assertTrue(same(again[0], then))
        self.assertIs(walks(stock, then, then, again[1]), True)
        if stock[0] == "loose":
            self.assertNotIn("'cup'", repr(told))
            self.assertNotIn("'cap'", repr(told))
        return then

    def test_straight_wires_and_crossings(self):
        for text in LAID:
            for stock in (LOOSE, BENT):
                self.check(stock, read_picture(stock, text))

    def test_wires_that_bend(self):
        for text in BENT_ONES:
            self.check(BENT, read_picture(BENT, text))

    def test_two_with_the_same_graph(self):
        for one, other in (("a b | 0 cross | 0 cross", "a b"), ("a | 1 cup a | 0 cap", "a"),
                           ("a a | 0 cross | 0 cap", "a a | 0 cap"),
                           ("a b | 2 cup b | 0 f | 1 cap", "a b | 0 f | 1 cup a | 0 cap"),
                           ("a b | 2 cup b | 1 cap | 0 f", "a b | 0 f"),
                           ("- | 0 cup a | 0 dot | 0 cap | 0 dot", "- | 0 dot | 0 dot | 0 cup a | 0 cap"),
                           ("- | 0 cup a | 0 dot | 0 cross", "- | 0 dot | 0 cup a")):
            graphs = {graph_of(BENT, read_picture(BENT, text)) for text in (one, other)}
            pictures = {self.check(BENT, read_picture(BENT, text)) for text in (one, other)}
            self.assertEqual(len(graphs), len(pictures))

    def test_rings_of_several_sorts(self):
        ring = " | 0 cup a | 0 cap | 0 cup b | 0 cap"
        for text in ("-" + ring, "-" + ring + " | 0 dot" + ring, "b a" + ring * 2 + " | 0 gone" + ring,
                     "a b | 0 f | 0 g" + ring):
            self.check(BENT, read_picture(BENT, text))

    def test_by_chance(self):
        chance = random.Random(111)
        for stock in (LOOSE, BENT):
            for _ in range(200):
                self.check(stock, fronted(stock, chance_picture(stock, chance)[0])[0])

    def test_slid_about_the_graph_kept(self):
        chance = random.Random(112)
        for stock in (LOOSE, BENT):
            for _ in range(40):
                picture = fronted(stock, chance_picture(stock, chance, 8)[0])[0]
                other = fronted(stock, slid_about(stock, picture, chance, 20)[0])[0]
                graphs = {graph_of(stock, picture), graph_of(stock, other)}
                self.assertEqual(len(graphs), len({self.check(stock, picture), self.check(stock, other)}))

    def test_drawn_graphs(self):
        chance = random.Random(113)
        for _ in range(100):
            graph = chance_graph(BENT, chance)
            self.assertTrue(same(settled(BENT, drawn(BENT, graph))[0], drawn(BENT, graph)))

    def test_up_to_eight_boxes_and_forty_five_layers(self):
        chance = random.Random(114)
        for stock in (LOOSE, BENT):
            done = 0
            while done < 20:
                picture = chance_picture(stock, chance, most_layers=45)[0]
                if 5 <= len(boxes_of(picture)) <= 8:
                    self.check(stock, fronted(stock, picture)[0])
                    done += 1
