import copy
import itertools
import random
import unittest

from oracles import (
    all_matchings, all_numberings, chance_graph, down, heaps, numbered_otherwise, sorts_of_feet, ties, up,
)
from samples import BENT, LOOSE, chance_picture, same
from slidewires.graphs import graph_of, is_graph
from slidewires.picturetexts import read_picture
from slidewires.spelling import are_alike, heaps_of, matchings, spelled

ROUND = ("bent", ("a",), (("p", ("a",), ("a",)), ("q", ("a",), ("a",)), ("r", ("a", "a"), ("a", "a")), ("s", (), ())))


def round_of(names, turned=()):
    """Boxes in a round, each giving to the next; those that are turned stand upside down."""
    pairs = []
    for k in range(1, len(names) + 1):
        then = k % len(names) + 1
        pairs.append((up(k, 0) if k in turned else down(k, 0), down(then, 0) if then in turned else up(then, 0)))
    return ((), (), tuple(names), ties(*pairs), ())


def tied_by_chance(names, chance):
    feet = list(sorts_of_feet(ROUND, ((), (), names)))
    chance.shuffle(feet)
    return ((), (), names, ties(*zip(feet[::2], feet[1::2])), ())


def shuffled(graph, chance):
    order = list(range(1, len(graph[2]) + 1))
    chance.shuffle(order)
    return numbered_otherwise(graph, order)


def chance_graphs(chance, many, most_boxes):
    """Graphs of both manners, numbered by chance."""
    for _ in range(many):
        yield BENT, chance_graph(BENT, chance, most_boxes)
        yield ROUND, chance_graph(ROUND, chance, most_boxes, most_feet=1)
        graph = graph_of(LOOSE, chance_picture(LOOSE, chance)[0])
        if len(graph[2]) <= most_boxes:
            yield LOOSE, shuffled(graph, chance)


class Spelled(unittest.TestCase):
    def spelled(self, stock, graph):
        before = copy.deepcopy(graph)
        told = spelled(stock, graph)
        self.assertTrue(same(spelled(stock, graph), told))
        self.assertTrue(same(graph, before))
        self.assertIs(is_graph(stock, told), True)
        return told

    def test_one_for_all_numberings_and_one_of_them(self):
        chance = random.Random(31)
        for stock, graph in chance_graphs(chance, 40, 4):
            told = self.spelled(stock, graph)
            numberings = [other for order, other in all_numberings(graph)]
            self.assertIn(told, numberings)
            for other in numberings:
                self.assertTrue(same(spelled(stock, other), told))
                self.assertIs(are_alike(stock, graph, other), True)
                self.assertIs(are_alike(stock, other, graph), True)

    def test_spelled_as_itself(self):
        chance = random.Random(32)
        for stock, graph in chance_graphs(chance, 60, 8):
            told = self.spelled(stock, graph)
            self.assertTrue(same(self.spelled(stock, told), told))
            self.assertTrue(same(self.spelled(stock, shuffled(graph, chance)), told))

    def test_alike_just_where_a_numbering_makes_it_so(self):
        chance = random.Random(33)
        told = {True: 0, False: 0}
        for names in ("rr", "prr", "ppqq", "pprs"):
            graphs = [tied_by_chance(tuple(names), chance) for _ in range(25)]
            for one, other in itertools.combinations(graphs, 2):
                expected = other in [graph for order, graph in all_numberings(one)]
                told[expected] += 1
                self.assertIs(are_alike(ROUND, one, other), expected, (one, other))
                self.assertEqual(spelled(ROUND, one) == spelled(ROUND, other), expected)
        self.assertGreater(min(told.values()), 20)

    def test_ties_exchanged(self):
        chance = random.Random(34)
        told = {True: 0, False: 0}
        for _ in range(2000):
            graph = chance_graph(BENT, chance, 4, 1)
            if len(graph[3]) > 1:
                one, other = chance.sample(graph[3], 2)
                left = [tie for tie in graph[3] if tie not in (one, other)]
                turned = graph[:3] + (ties((one[0], other[1]), (other[0], one[1]), *left),) + graph[4:]
                if is_graph(BENT, turned):
                    expected = turned in [numbering for order, numbering in all_numberings(graph)]
                    told[expected] += 1
                    self.assertIs(are_alike(BENT, graph, turned), expected)
        self.assertGreater(min(told.values()), 4)

    def unlike(self, stock, one, other):
        self.assertTrue(is_graph(stock, one) and is_graph(stock, other))
        self.assertIs(are_alike(stock, one, other), False)
        self.assertNotEqual(spelled(stock, one), spelled(stock, other))
        self.assertEqual(matchings(stock, one, other), ())
        for graph in (one, other):
            self.assertIs(are_alike(stock, graph, graph), True)

    def test_only_rings(self):
        for boxes in ((), ("dot",)):
            several = [((), (), boxes, (), rings) for rings in
                       ((), (("a", 1),), (("a", 2),), (("b", 1),), (("a", 1), ("b", 1)), (("a", 1), ("b", 2)))]
            for one, other in itertools.combinations(several, 2):
                self.unlike(BENT, one, other)

    def test_only_the_order_of_feet(self):
        def tied(first, second):
            return (("a",) * 2, ("a",) * 2, ("same",),
                    ties((up(0, 0), up(1, first)), (up(0, 1), up(1, 1 - first)), (down(0, 0), down(1, second)),
                         (down(0, 1), down(1, 1 - second))), ())

        for stock in (LOOSE, BENT):
            for one, other in itertools.combinations([tied(i, j) for i in (0, 1) for j in (0, 1)], 2):
                self.unlike(stock, one, other)
        twice = [round_of(("r",))[:3] + (ties((up(1, 0), down(1, i)), (up(1, 1), down(1, 1 - i))), ()) for i in (0, 1)]
        self.unlike(ROUND, *twice)
        self.unlike(LOOSE, graph_of(LOOSE, read_picture(LOOSE, "a a")),
                    graph_of(LOOSE, read_picture(LOOSE, "a a | 0 cross")))

    def test_only_sorts_of_straight_wires(self):
        for stock in (LOOSE, BENT):
            rows = [(sorts, sorts, ("dot",), ties(*[(up(0, i), down(0, i)) for i in range(2)]), ())
                    for sorts in itertools.product("ab", repeat=2)]
            for one, other in itertools.combinations(rows, 2):
                self.unlike(stock, one, other)

    def test_only_names(self):
        self.unlike(ROUND, round_of("pp"), round_of("pq"))
        self.unlike(ROUND, ((), (), ("s",), (), ()), ((), (), ("s", "s"), (), ()))
        self.unlike(ROUND, ((), (), (), (), ()), ((), (), ("s",), (), ()))

    def test_rounds(self):
        chance = random.Random(35)
        for many in (8, 11):
            spelled_ones = {}
            for apart in range(1, many):
                names = ["q" if k in (0, apart) else "p" for k in range(many)]
                graph = shuffled(round_of(names), chance)
                for _ in range(3):
                    self.assertEqual(spelled(ROUND, shuffled(graph, chance)), self.spelled(ROUND, graph))
                spelled_ones.setdefault(spelled(ROUND, graph), set()).add(min(apart, many - apart))
            # Two others, so far apart the one way or the other way round: that is all there is to tell.
            self.assertEqual(sorted(map(sorted, spelled_ones.values())), [[k] for k in range(1, many // 2 + 1)])

    def test_rounds_with_boxes_upside_down(self):
        for many in (8, 11):
            told = set()
            for apart in range(1, many):
                told.add(spelled(ROUND, round_of("p" * many, turned=(1, 1 + apart))))
            self.assertEqual(len(told), many // 2)

    def test_one_round_or_two(self):
        def rounds(*many):
            graphs = [round_of("p" * k) for k in many]
            moved, by = [], 0
            for graph in graphs:
                moved += [tuple((number + by, side, i) for number, side, i in tie) for tie in graph[3]]
                by += len(graph[2])
            return ((), (), ("p",) * by, ties(*moved), ())

        several = [rounds(8), rounds(4, 4), rounds(5, 3), rounds(3, 3, 2), rounds(*[1] * 8)]
        for one, other in itertools.combinations(several, 2):
            self.unlike(ROUND, one, other)
        self.assertIs(are_alike(ROUND, rounds(3, 5), rounds(5, 3)), True)

    def test_the_greatest(self):
        chance = random.Random(36)
        for _ in range(10):
            graph = chance_graph(BENT, chance, 12, 8)
            names = graph[2] + ("dot",) * (12 - len(graph[2]))
            graph = graph[:2] + (names,) + graph[3:]
            self.assertEqual(spelled(BENT, shuffled(graph, chance)), self.spelled(BENT, graph))
        dots = ((), (), ("dot",) * 300, (), ())
        self.assertEqual(spelled(LOOSE, dots), dots)


class Matchings(unittest.TestCase):
    def matched(self, stock, one, other):
        before = copy.deepcopy((one, other))
        told = matchings(stock, one, other)
        self.assertTrue(same(told, matchings(stock, one, other)))
        self.assertTrue(same((one, other), before))
        return told

    def test_all_and_rising(self):
        chance = random.Random(41)
        several = 0
        for stock, graph in chance_graphs(chance, 60, 4):
            other = shuffled(graph, chance)
            told = self.matched(stock, graph, other)
            self.assertTrue(same(told, all_matchings(graph, other)))
            self.assertTrue(told)
            several += len(told) > 1
        self.assertGreater(several, 20)

    def test_with_itself(self):
        chance = random.Random(42)
        for stock, graph in chance_graphs(chance, 60, 6):
            self.assertIn(tuple(range(1, len(graph[2]) + 1)), self.matched(stock, graph, graph))

    def test_which_way_about(self):
        one = graph_of(LOOSE, read_picture(LOOSE, "a | 0 g | 0 gone | 0 dot"))
        other = numbered_otherwise(one, (3, 1, 2))
        # The box g is number 1 in the one, number 2 in the other.
        self.assertEqual(other[2], ("dot", "g", "gone"))
        self.assertEqual(self.matched(LOOSE, one, other), ((2, 3, 1),))
        self.assertEqual(self.matched(LOOSE, other, one), ((3, 1, 2),))

    def test_rounds(self):
        for many in range(1, 7):
            graph = round_of("p" * many)
            turned = [tuple((k + by) % many + 1 for k in range(many)) for by in range(many)]
            self.assertEqual(self.matched(ROUND, graph, graph), tuple(sorted(turned)))

    def test_boxes_without_feet(self):
        for many in range(6):
            graph = ((), (), ("dot",) * many, (), ())
            told = self.matched(LOOSE, graph, graph)
            self.assertEqual(told, tuple(itertools.permutations(range(1, many + 1))))
        self.assertEqual(len(matchings(LOOSE, *[((), (), ("dot",) * 6, (), ())] * 2)), 720)

    def test_heaps_alike(self):
        pair = ((), (), ("p",) * 6, ties(*[(down(k, 0), up(k % 2 * 2 + k - 1, 0)) for k in range(1, 7)]), ())
        told = self.matched(ROUND, pair, pair)
        self.assertEqual(len(told), 6 * 8)
        self.assertEqual(told, all_matchings(pair, pair))

    def test_none_of_unlike_ones(self):
        chance = random.Random(43)
        unlike = 0
        for _ in range(400):
            one = chance_graph(ROUND, chance, 3, 1)
            other = chance_graph(ROUND, chance, 3, 1)
            expected = all_matchings(one, other)
            unlike += expected == ()
            self.assertTrue(same(self.matched(ROUND, one, other), expected))
        self.assertGreater(unlike, 100)

    def test_without_boxes(self):
        for stock in (LOOSE, BENT):
            for text in ("-", "a b", "a b | 0 cross"):
                graph = graph_of(stock, read_picture(stock, text))
                self.assertTrue(same(self.matched(stock, graph, graph), ((),)))
        ringed = ((), (), (), (), (("a", 1),))
        self.assertTrue(same(self.matched(BENT, ringed, ringed), ((),)))
        self.assertTrue(same(self.matched(BENT, ringed, ((), (), (), (), ())), ()))


class HeapsOf(unittest.TestCase):
    def heaps(self, stock, graph):
        before = copy.deepcopy(graph)
        told = heaps_of(stock, graph)
        self.assertIs(type(told), list)
        for heap in told:
            self.assertIs(is_graph(stock, heap), True)
            self.assertEqual((heap[0], heap[1], heap[4]), ((), (), ()))
            self.assertTrue(same(spelled(stock, heap), heap))
            self.assertEqual(heaps_of(stock, heap), [heap])
        again = heaps_of(stock, graph)
        self.assertIsNot(again, told)
        self.assertEqual(again, told)
        # The list is the asker's own.
        again.append("more")
        again.reverse()
        self.assertEqual(heaps_of(stock, graph), told)
        self.assertTrue(same(graph, before))
        return sorted(told)

    def test_none(self):
        for text in ("-", "a b", "a a | 0 same", "a | 0 g | 1 new | 1 same"):
            self.assertEqual(self.heaps(LOOSE, graph_of(LOOSE, read_picture(LOOSE, text))), [])
        self.assertEqual(self.heaps(BENT, ((), (), (), (), (("a", 3), ("b", 1)))), [])

    def test_boxes_without_feet(self):
        dot = ((), (), ("dot",), (), ())
        graph = graph_of(LOOSE, read_picture(LOOSE, "a | 0 dot | 1 dot | 0 g | 0 dot"))
        self.assertEqual(self.heaps(LOOSE, graph), [dot] * 3)
        self.assertEqual(self.heaps(LOOSE, dot), [dot])

    def test_several_and_several_alike(self):
        text = "a | 0 dot | 0 cup a | 0 same | 0 cap | 0 g | 1 cup a | 1 same | 1 cap | 0 cup b | 0 cap"
        looped = ((), (), ("same",), ties((up(1, 0), up(1, 1)), (down(1, 0), down(1, 1))), ())
        told = self.heaps(BENT, graph_of(BENT, read_picture(BENT, text)))
        self.assertEqual(told, sorted([((), (), ("dot",), (), ()), looped, looped]))
        told = self.heaps(BENT, graph_of(BENT, read_picture(BENT, "b | 1 new | 1 g | 1 gone | 1 new | 1 cap")))
        self.assertEqual([sorted(heap[2]) for heap in told], [["g", "gone", "new", "new"]])

    def test_against_parts_found_anew(self):
        chance = random.Random(51)
        many = {}
        for stock, graph in chance_graphs(chance, 150, 6):
            told = self.heaps(stock, graph)
            self.assertEqual(told, sorted(spelled(stock, heap) for heap in heaps(graph)))
            many[len(told)] = many.get(len(told), 0) + 1
        self.assertTrue({0, 1, 2, 3} <= set(many))

    def test_the_same_whatever_the_numbers(self):
        chance = random.Random(52)
        for stock, graph in chance_graphs(chance, 60, 8):
            self.assertEqual(self.heaps(stock, graph), self.heaps(stock, shuffled(graph, chance)))
