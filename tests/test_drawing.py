import copy
import itertools
import random
import unittest

from oracles import all_numberings, chance_graph, down, givers_first, numbered_otherwise, slid_about, ties, up
from samples import BENT, LOOSE, chance_picture, same
from slidewires.drawing import drawn, plain
from slidewires.graphs import graph_of, is_graph
from slidewires.pictures import boxes_of, is_picture
from slidewires.picturetexts import read_picture
from slidewires.spelling import are_alike, spelled


class Drawn(unittest.TestCase):
    def check(self, stock, graph):
        self.assertIs(is_graph(stock, graph), True)
        before = copy.deepcopy(graph)
        told = drawn(stock, graph)
        self.assertTrue(same(drawn(stock, graph), told))
        self.assertTrue(same(graph, before))
        self.assertIs(is_picture(stock, told), True)
        self.assertEqual([place for place, step in told[1] if step[0] == "box"], [0] * len(graph[2]))
        order = givers_first(graph) if stock[0] == "loose" else list(range(1, len(graph[2]) + 1))
        self.assertEqual(boxes_of(told), tuple(graph[2][number - 1] for number in order))
        self.assertTrue(same(graph_of(stock, told), numbered_otherwise(graph, order)))
        if stock[0] == "loose":
            self.assertFalse([step for place, step in told[1] if step[0] in ("cup", "cap")])

    def test_without_boxes(self):
        for stock in (LOOSE, BENT):
            self.check(stock, ((), (), (), (), ()))
            for order in itertools.permutations(range(4)):
                pairs = [(up(0, i), down(0, j)) for i, j in enumerate(order)]
                self.check(stock, (("a",) * 4, ("a",) * 4, (), ties(*pairs), ()))
        self.assertEqual(drawn(LOOSE, (("a",), ("a",), (), ties((up(0, 0), down(0, 0))), ())), (("a",), ()))

    def test_feet_tied_above_to_above_and_below_to_below(self):
        for pairs in ([(0, 1), (2, 3)], [(0, 2), (1, 3)], [(0, 3), (1, 2)]):
            above = [(up(0, i), up(0, j)) for i, j in pairs]
            below = [(down(0, i), down(0, j)) for i, j in pairs]
            self.check(BENT, (("a",) * 4, (), (), ties(*above), ()))
            self.check(BENT, ((), ("a",) * 4, (), ties(*below), ()))
            self.check(BENT, (("a",) * 4, ("a",) * 4, (), ties(*above, *below), (("a", 1),)))
            self.check(BENT, (("a",) * 5, ("a",) * 5, ("dot",), ties(*above, *below, (up(0, 4), down(0, 4))), ()))

    def test_all_ties_of_few_feet(self):
        feet = [up(0, 0), up(0, 1), down(0, 0), down(0, 1), up(1, 0), up(1, 1), down(1, 0), down(1, 1)]

        def pairings(left):
            if not left:
                yield []
            for k in range(1, len(left)):
                for rest in pairings(left[1:k] + left[k + 1:]):
                    yield [(left[0], left[k])] + rest

        many = 0
        for pairs in pairings(feet):
            self.check(BENT, (("a",) * 2, ("a",) * 2, ("same",), ties(*pairs), ()))
            many += 1
        self.assertEqual(many, 105)

    def test_two_feet_of_one_box(self):
        self.check(BENT, ((), (), ("same",), ties((up(1, 0), up(1, 1)), (down(1, 0), down(1, 1))), ()))
        self.check(BENT, ((), (), ("same",), ties((up(1, 0), down(1, 0)), (up(1, 1), down(1, 1))), ()))
        self.check(BENT, ((), ("b",), ("g",), ties((up(1, 0), down(1, 1)), (down(1, 0), down(0, 0))), ()))

    def test_rings(self):
        for rings in ((("a", 1),), (("b", 3),), (("a", 2), ("b", 2))):
            self.check(BENT, ((), (), (), (), rings))
            self.check(BENT, ((), (), ("dot", "dot"), (), rings))
            self.check(BENT, (("a",), ("a",), (), ties((up(0, 0), down(0, 0))), rings))

    def test_boxes_without_feet(self):
        for stock in (LOOSE, BENT):
            for many in range(5):
                self.check(stock, ((), (), ("dot",) * many, (), ()))
            self.check(stock, ((), ("a", "a"), ("dot", "new", "dot", "new"),
                               ties((down(2, 0), down(0, 1)), (down(4, 0), down(0, 0))), ()))

    def test_by_chance(self):
        chance = random.Random(61)
        for _ in range(400):
            self.check(BENT, chance_graph(BENT, chance))

    def test_loose_numbered_otherwise(self):
        chance = random.Random(62)
        turned = 0
        for _ in range(400):
            graph = graph_of(LOOSE, chance_picture(LOOSE, chance)[0])
            order = list(range(1, len(graph[2]) + 1))
            chance.shuffle(order)
            other = numbered_otherwise(graph, order)
            self.check(LOOSE, graph)
            self.check(LOOSE, other)
            self.check(BENT, other)
            turned += givers_first(other) != sorted(order)
        self.assertGreater(turned, 50)

    def test_of_those_whose_givers_are_there_the_least_number_first(self):
        graph = graph_of(LOOSE, read_picture(LOOSE, "b | 0 gone | 0 new | 0 g | 0 gone | 1 dot"))
        # new gives to g, g gives to a gone; the other gone and the dot wait for none.
        names = {}
        for order, other in all_numberings(graph):
            names[order] = boxes_of(drawn(LOOSE, other))
        self.assertEqual(names[(1, 2, 3, 4, 5)], ("gone", "new", "g", "gone", "dot"))
        self.assertEqual(names[(5, 4, 3, 2, 1)], ("dot", "new", "g", "gone", "gone"))
        self.assertEqual(names[(4, 5, 3, 1, 2)], ("dot", "gone", "new", "g", "gone"))

    def test_the_greatest(self):
        chance = random.Random(63)
        for _ in range(10):
            self.check(BENT, chance_graph(BENT, chance, 12, 8))
        many = 12
        pairs = [(down(k, i), up(k + 1, 1 - i)) for k in range(1, many) for i in (0, 1)]
        pairs += [(up(0, i), up(1, i)) for i in (0, 1)] + [(down(many, i), down(0, i)) for i in (0, 1)]
        pairs += [(up(0, i), down(0, 10 - i)) for i in range(2, 9)]
        for stock in (LOOSE, BENT):
            self.check(stock, (("a",) * 9, ("a",) * 9, ("same",) * many, ties(*pairs), ()))


class Plain(unittest.TestCase):
    def check(self, stock, picture):
        before = copy.deepcopy(picture)
        told = plain(stock, picture)
        self.assertTrue(same(plain(stock, picture), told))
        self.assertTrue(same(picture, before))
        self.assertIs(is_picture(stock, told), True)
        self.assertEqual({place for place, step in told[1] if step[0] == "box"} - {0}, set())
        self.assertTrue(same(plain(stock, told), told))
        self.assertTrue(same(told, drawn(stock, spelled(stock, graph_of(stock, picture)))))
        self.assertTrue(are_alike(stock, graph_of(stock, picture), graph_of(stock, told)))
        return told

    def test_the_same_for_pictures_slid_to_one_another(self):
        chance = random.Random(64)
        for stock in (LOOSE, BENT):
            for _ in range(60):
                picture = chance_picture(stock, chance)[0]
                told = self.check(stock, picture)
                other = slid_about(stock, picture, chance, 20)[0]
                self.assertTrue(same(self.check(stock, other), told))

    def test_the_same_for_all_numberings(self):
        chance = random.Random(65)
        for _ in range(40):
            graph = chance_graph(BENT, chance, 4)
            forms = {plain(BENT, drawn(BENT, other)) for order, other in all_numberings(graph)}
            self.assertEqual(len(forms), 1)

    def test_unlike_ones_have_unlike_forms(self):
        texts = ("-", "- | 0 dot", "- | 0 dot | 0 dot", "- | 0 cup a | 0 cap", "- | 0 cup b | 0 cap", "a a",
                 "a a | 0 cross",
                 "a a | 0 cap | 0 cup a", "a a | 0 same", "a a | 0 same | 0 cross", "a a | 0 cross | 0 same", "a b",
                 "- | 0 cup a | 0 same | 0 cap", "- | 0 new | 0 new | 0 cap", "- | 0 cup a")
        forms = [self.check(BENT, read_picture(BENT, text)) for text in texts]
        self.assertEqual(len(set(forms)), len(texts))
