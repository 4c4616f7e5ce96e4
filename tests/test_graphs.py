import copy
import itertools
import random
import unittest

from oracles import down, gives, numbered_otherwise, sorts_of_feet, ties, up
from samples import (
    BENT, BRAID, LOOSE, ODD, chance_picture, less_and_twice, put_at, same, with_lists, with_more, with_odd,
)
from slidewires.feet import is_giver
from slidewires.graphs import graph_of, is_graph
from slidewires.pictures import wires_at
from slidewires.picturetexts import read_picture


class Traced:
    """The graph of a picture by going along each wire, layer by layer, up or down."""

    def __init__(self, stock, picture):
        self.feet = {name: (len(above), len(below)) for name, above, below in stock[2]}
        self.layers = picture[1]
        self.rows = [wires_at(stock, picture, at) for at in range(len(self.layers) + 1)]
        self.numbers = {}
        for at, (place, step) in enumerate(self.layers):
            if step[0] == "box":
                self.numbers[at] = len(self.numbers) + 1
        self.seen = set()

    def sizes(self, at):
        step = self.layers[at][1]
        if step[0] == "box":
            return self.feet[step[1]]
        return {"cross": (2, 2), "cup": (0, 2), "cap": (2, 0)}[step[0]]

    def one_on(self, at, i, way):
        """From the wire i of row at on: ("foot", foot), or ("wire", at, i, way)."""
        if way == "down" and at == len(self.layers):
            return ("foot", (0, "down", i))
        if way == "up" and at == 0:
            return ("foot", (0, "up", i))
        layer = at if way == "down" else at - 1
        place, step = self.layers[layer]
        takes, gives = self.sizes(layer)
        here, there = (takes, gives) if way == "down" else (gives, takes)
        beyond = at + 1 if way == "down" else at - 1
        if i < place:
            return ("wire", beyond, i, way)
        if i >= place + here:
            return ("wire", beyond, i - here + there, way)
        if step[0] == "box":
            return ("foot", (self.numbers[layer], "up" if way == "down" else "down", i - place))
        other = place + (place + 1 - i)
        if step[0] == "cross":
            return ("wire", beyond, other, way)
        return ("wire", at, other, "up" if way == "down" else "down")

    def follow(self, at, i, way):
        start = (at, i)
        while True:
            self.seen.add((at, i))
            found = self.one_on(at, i, way)
            if found[0] == "foot":
                return found[1]
            kind, at, i, way = found
            if (at, i) == start:
                return None

    def graph(self, stock):
        found = set()
        for at, row in enumerate(self.rows):
            for i in range(len(row)):
                ends = (self.follow(at, i, "up"), self.follow(at, i, "down"))
                if None not in ends:
                    found.add(tuple(sorted(ends)))
        names = tuple(step[1] for place, step in self.layers if step[0] == "box")
        return (self.rows[0], self.rows[-1], names, tuple(sorted(found)), self.rings(stock))

    def rings(self, stock):
        many = dict.fromkeys(stock[1], 0)
        gone = set()
        for at, row in enumerate(self.rows):
            for i in range(len(row)):
                if (at, i) not in gone:
                    self.seen = set()
                    if self.follow(at, i, "down") is None:
                        many[row[i]] += 1
                    else:
                        self.follow(at, i, "up")
                    gone |= self.seen
        return tuple((sort, many[sort]) for sort in stock[1] if many[sort])


class GraphOf(unittest.TestCase):
    def check(self, stock, text, below, boxes, tied, rings=()):
        picture = read_picture(stock, text)
        before = copy.deepcopy(picture)
        for _ in range(2):
            told = graph_of(stock, picture)
            self.assertTrue(same(told, (picture[0], below, boxes, tied, rings)), told)
        self.assertEqual(picture, before)
        self.assertIs(is_graph(stock, graph_of(stock, picture)), True)

    def both(self, *told):
        self.check(LOOSE, *told)
        self.check(BENT, *told)

    def test_no_layers(self):
        self.both("-", (), (), ())
        self.both("a b", ("a", "b"), (), ties((up(0, 0), down(0, 0)), (up(0, 1), down(0, 1))))

    def test_crossings(self):
        self.both("a b | 0 cross", ("b", "a"), (), ties((up(0, 0), down(0, 1)), (up(0, 1), down(0, 0))))
        self.both("a b | 0 cross | 0 cross", ("a", "b"), (), ties((up(0, 0), down(0, 0)), (up(0, 1), down(0, 1))))
        self.both("a b a | 0 cross | 1 cross", ("b", "a", "a"), (),
                  ties((up(0, 0), down(0, 2)), (up(0, 1), down(0, 0)), (up(0, 2), down(0, 1))))

    def test_boxes(self):
        self.both("a b | 0 f", ("a",), ("f",),
                  ties((up(0, 0), up(1, 0)), (up(0, 1), up(1, 1)), (down(0, 0), down(1, 0))))
        self.both("- | 0 dot | 0 dot", (), ("dot", "dot"), ())
        self.both("a | 0 g | 0 gone | 0 g", ("b", "a"), ("g", "gone", "g"),
                  ties((up(0, 0), up(1, 0)), (down(1, 0), up(2, 0)), (down(1, 1), up(3, 0)), (down(3, 0), down(0, 0)),
                       (down(3, 1), down(0, 1))))
        self.both("b | 1 new | 0 cross | 0 f", ("a",), ("new", "f"),
                  ties((up(0, 0), up(2, 1)), (down(1, 0), up(2, 0)), (down(2, 0), down(0, 0))))

    def test_wires_from_foot_to_foot(self):
        self.check(BENT, "a a | 0 cap", (), (), ties((up(0, 0), up(0, 1))))
        self.check(BENT, "- | 0 cup b", ("b", "b"), (), ties((down(0, 0), down(0, 1))))
        self.check(BENT, "a | 1 cup a | 0 cap", ("a",), (), ties((up(0, 0), down(0, 0))))
        self.check(BENT, "a | 0 cup a | 1 cap", ("a",), (), ties((up(0, 0), down(0, 0))))
        self.check(BENT, "a | 1 cup a | 1 cap", ("a",), (), ties((up(0, 0), down(0, 0))), (("a", 1),))
        self.check(BENT, "a | 1 cup a | 3 cup a | 2 cap | 0 cap", ("a",), (), ties((up(0, 0), down(0, 0))))
        self.check(BENT, "- | 0 cup a | 2 cup a | 1 cap", ("a", "a"), (), ties((down(0, 0), down(0, 1))))
        self.check(BENT, "a a a a | 1 cap | 0 cap", (), (), ties((up(0, 0), up(0, 3)), (up(0, 1), up(0, 2))))
        self.check(BENT, "a a | 1 cup a | 0 cap | 0 cap", (), (), ties((up(0, 0), up(0, 1))))

    def test_two_feet_of_one_box(self):
        self.check(BENT, "- | 0 cup a | 0 same | 0 cap", (), ("same",),
                   ties((up(1, 0), up(1, 1)), (down(1, 0), down(1, 1))))
        self.check(BENT, "- | 0 cup a | 0 g | 1 cap", ("b",), ("g",),
                   ties((up(1, 0), down(1, 1)), (down(1, 0), down(0, 0))))
        self.check(BENT, "a b | 0 f | 1 cup b | 0 cross | 0 gone", ("a", "b"), ("f", "gone"),
                   ties((up(0, 0), up(1, 0)), (up(0, 1), up(1, 1)), (down(1, 0), down(0, 0)), (up(2, 0), down(0, 1))))

    def test_rings(self):
        self.check(BENT, "- | 0 cup b | 0 cap", (), (), (), (("b", 1),))
        self.check(BENT, "- | 0 cup b | 0 cross | 0 cap", (), (), (), (("b", 1),))
        self.check(BENT, "- | 0 cup b | 0 cap | 0 cup a | 0 cap | 0 cup b | 0 cap", (), (), (), (("a", 1), ("b", 2)))
        self.check(BENT, "- | 0 cup a | 1 cup a | 1 cap | 0 cap", (), (), (), (("a", 2),))
        self.check(BENT, "- | 0 cup a | 1 cup a | 0 cap | 0 cap", (), (), (), (("a", 1),))
        self.check(BENT, "- | 0 cup b | 2 cup a | 1 cross | 0 cross | 1 cross | 0 cross | 1 cross | 0 cap | 0 cap",
                   (), (), (), (("a", 1), ("b", 1)))

    def test_against_wires_gone_along(self):
        chance = random.Random(12)
        ringed = 0
        for stock in (LOOSE, BENT):
            for _ in range(600):
                picture, below = chance_picture(stock, chance, most_layers=24)
                graph = graph_of(stock, picture)
                self.assertTrue(same(graph, Traced(stock, picture).graph(stock)), picture)
                self.assertIs(is_graph(stock, graph), True)
                ringed += len(graph[4]) == 2
        self.assertGreater(ringed, 20)

    def test_rising_and_in_the_order_of_the_stock(self):
        turned = ("bent", ("b", "a"), BENT[2])
        picture = read_picture(turned, "b a | 0 cup a | 0 cap | 1 cup b | 1 cap | 0 cross | 0 f")
        graph = graph_of(turned, picture)
        self.assertEqual(graph[4], (("b", 1), ("a", 1)))
        self.assertEqual(list(graph[3]), sorted(graph[3]))
        self.assertTrue(all(foot < other for foot, other in graph[3]))
        self.assertTrue(is_graph(turned, graph))
        self.assertFalse(is_graph(BENT, graph))


def is_loose(graph):
    """No two givers, no two takers, no way round: by going all ways from each box."""
    after = {}
    for one, other in graph[3]:
        if gives(one) == gives(other):
            return False
        giver, taker = (one, other) if gives(one) else (other, one)
        after.setdefault(giver[0], set()).add(taker[0])
    for start in range(1, len(graph[2]) + 1):
        reached, edge = set(), {start}
        while edge:
            edge = {then for box in edge for then in after.get(box, ()) if then != 0} - reached
            reached |= edge
        if start in reached:
            return False
    return True


LOOSE_GRAPH = graph_of(LOOSE, read_picture(LOOSE, "a b a | 0 f | 0 same | 0 g | 3 dot"))
BENT_TEXT = "a b | 0 f | 0 g | 2 cup a | 1 same | 0 cup b | 0 cap | 0 cup a | 0 cap"
BENT_GRAPH = graph_of(BENT, read_picture(BENT, BENT_TEXT))


class IsGraph(unittest.TestCase):
    def yes(self, stock, thing):
        self.assertIs(is_graph(stock, thing), True, thing)

    def no(self, stock, thing):
        before = copy.deepcopy(thing)
        self.assertIs(is_graph(stock, thing), False, thing)
        self.assertIs(is_graph(stock, thing), False)
        self.assertTrue(same(thing, before))

    def test_samples(self):
        self.yes(LOOSE, LOOSE_GRAPH)
        self.yes(BENT, LOOSE_GRAPH)
        self.yes(BENT, BENT_GRAPH)
        self.assertEqual(BENT_GRAPH[4], (("a", 1), ("b", 1)))
        self.no(LOOSE, BENT_GRAPH)
        for stock in (LOOSE, BENT):
            self.yes(stock, ((), (), (), (), ()))
            self.yes(stock, ((), (), ("dot",) * 3, (), ()))

    def test_numbered_otherwise(self):
        chance = random.Random(13)
        for stock in (LOOSE, BENT):
            for _ in range(150):
                graph = graph_of(stock, chance_picture(stock, chance)[0])
                order = list(range(1, len(graph[2]) + 1))
                chance.shuffle(order)
                self.yes(stock, numbered_otherwise(graph, order))
        for order in itertools.permutations((1, 2, 3, 4)):
            self.yes(LOOSE, numbered_otherwise(LOOSE_GRAPH, order))

    def test_tied_otherwise(self):
        chance = random.Random(14)
        told = {True: 0, False: 0}
        for stock in (LOOSE, BENT):
            for _ in range(600):
                graph = graph_of(stock, chance_picture(stock, chance, most_layers=8)[0])
                feet = sorts_of_feet(stock, graph)
                pairs = []
                for sort in stock[1]:
                    some = [foot for foot in feet if feet[foot] == sort]
                    chance.shuffle(some)
                    if stock == LOOSE and chance.randrange(4):
                        givers = [foot for foot in some if gives(foot)]
                        takers = [foot for foot in some if not gives(foot)]
                        some = [foot for pair in zip(givers, takers) for foot in pair]
                    pairs += zip(some[::2], some[1::2])
                thing = graph[:3] + (ties(*pairs),) + graph[4:]
                expected = stock == BENT or is_loose(thing)
                self.assertIs(is_graph(stock, thing), expected, thing)
                told[expected] += 1
        self.assertGreater(min(told.values()), 100)

    def test_ways_that_come_round(self):
        same_twice = ((), (), ("same", "same"), ties((down(1, 0), up(2, 0)), (down(1, 1), up(2, 1)),
                                                     (down(2, 0), up(1, 0)), (down(2, 1), up(1, 1))), ())
        alone = (("a",), ("a",), ("same",),
                 ties((up(0, 0), up(1, 0)), (down(1, 0), up(1, 1)), (down(1, 1), down(0, 0))), ())
        half = (("a",), ("a",), ("same", "same"),
                ties((up(0, 0), up(1, 0)), (down(1, 0), up(2, 0)), (down(1, 1), up(2, 1)), (down(2, 0), up(1, 1)),
                     (down(2, 1), down(0, 0))), ())
        for graph in (same_twice, alone, half):
            self.yes(BENT, graph)
            self.no(LOOSE, graph)

    def test_two_givers_or_two_takers(self):
        for graph in (
            (("a", "a"), (), (), ties((up(0, 0), up(0, 1))), ()),
            ((), ("a", "a"), (), ties((down(0, 0), down(0, 1))), ()),
            ((), (), ("new", "new"), ties((down(1, 0), down(2, 0))), ()),
            ((), (), ("gone", "gone"), ties((up(1, 0), up(2, 0))), ()),
            (("a",), (), ("new",), ties((up(0, 0), down(1, 0))), ()),
            ((), ("b",), ("gone",), ties((down(0, 0), up(1, 0))), ()),
        ):
            self.yes(BENT, graph)
            self.no(LOOSE, graph)

    def test_ties_spoiled(self):
        for stock, graph in ((LOOSE, LOOSE_GRAPH), (BENT, BENT_GRAPH), (BENT, LOOSE_GRAPH)):
            tied = graph[3]
            for thing in less_and_twice(graph, (3,)):
                self.no(stock, thing)
            self.no(stock, put_at(graph, (3,), tied[::-1]))
            for k, (foot, other) in enumerate(tied):
                self.no(stock, put_at(graph, (3, k), (other, foot)))
                self.no(stock, put_at(graph, (3, k), (foot, foot)))
                self.no(stock, put_at(graph, (3, k), (foot, other, other)))
                for then in range(k):
                    more = ties((foot, tied[then][0]), (foot, tied[then][1]), (other, tied[then][0]))
                    for tie in more:
                        self.no(stock, put_at(graph, (3,), tuple(sorted(tied + (tie,)))))
                    turned = list(tied)
                    turned[k], turned[then] = tied[then], tied[k]
                    self.no(stock, put_at(graph, (3,), tuple(turned)))
                    self.no(stock, put_at(graph, (3,), tuple(sorted(tied[:k] + tied[then:then + 1] + tied[k + 1:]))))
                for odd in (up(9, 0), up(0, 9), up(1, -1), (-1, "up", 0), (1, "left", 0), (1, "", 0), (1, None, 0),
                            ("up", 1, 0)):
                    self.no(stock, put_at(graph, (3, k, 0), odd))
                    self.no(stock, put_at(graph, (3, k, 1), odd))

    def test_a_foot_in_two_ties(self):
        self.yes(BENT, (("a",) * 4, (), (), ties((up(0, 0), up(0, 1)), (up(0, 2), up(0, 3))), ()))
        self.no(BENT, (("a",) * 3, (), (), ties((up(0, 0), up(0, 1)), (up(0, 0), up(0, 2))), ()))
        self.no(BENT, (("a",) * 4, (), (), ties((up(0, 0), up(0, 1)), (up(0, 1), up(0, 2)), (up(0, 2), up(0, 3))), ()))
        self.no(BENT, (("a",) * 4, (), (), ties((up(0, 0), up(0, 1)), (up(0, 0), up(0, 2))), ()))
        self.no(LOOSE, (("a",), ("a", "a"), (), ties((up(0, 0), down(0, 0)), (up(0, 0), down(0, 1))), ()))

    def test_givers_and_takers(self):
        self.assertTrue(is_giver(up(0, 0)) and is_giver(down(1, 0)) and is_giver(down(12, 3)))
        self.assertFalse(is_giver(down(0, 0)) or is_giver(up(1, 0)) or is_giver(up(12, 3)))

    def test_no_graphs_of_braids(self):
        self.no(BRAID, ((), (), (), (), ()))
        self.no(BRAID, (("a",), ("a",), (), ties((up(0, 0), down(0, 0))), ()))

    def test_ties_of_two_sorts(self):
        good = (("a", "b"), ("a", "b"), (), ties((up(0, 0), down(0, 0)), (up(0, 1), down(0, 1))), ())
        bad = (("a", "b"), ("a", "b"), (), ties((up(0, 0), down(0, 1)), (up(0, 1), down(0, 0))), ())
        for stock in (LOOSE, BENT):
            self.yes(stock, good)
            self.no(stock, bad)
            self.no(stock, (("a",), ("b",), (), ties((up(0, 0), down(0, 0))), ()))

    def test_truths_for_numbers(self):
        for stock, graph in ((LOOSE, LOOSE_GRAPH), (BENT, BENT_GRAPH)):
            for k, tie in enumerate(graph[3]):
                for end in (0, 1):
                    for part in (0, 2):
                        if tie[end][part] in (0, 1):
                            self.no(stock, put_at(graph, (3, k, end, part), bool(tie[end][part])))
        self.no(BENT, put_at(BENT_GRAPH, (4, 0, 1), True))

    def test_what_the_stock_has_not(self):
        for stock in (LOOSE, BENT):
            self.no(stock, ((), (), ("zz",), (), ()))
            self.no(stock, ((), (), ("a",), (), ()))
            self.no(stock, ((), (), ("dot", "Dot"), (), ()))
            self.no(stock, (("zz",), ("zz",), (), ties((up(0, 0), down(0, 0))), ()))
            self.no(stock, (("f",), ("f",), (), ties((up(0, 0), down(0, 0))), ()))

    def test_rings(self):
        nothing = ((), (), (), ())
        for rings in ((("a", 1),), (("b", 10**12),), (("a", 2), ("b", 1))):
            self.yes(BENT, nothing + (rings,))
            self.no(LOOSE, nothing + (rings,))
        for rings in ((("a", 0),), (("a", -1),), (("zz", 1),), (("f", 1),), (("a", 1), ("a", 1)), (("a", 1), ("a", 2)),
                      (("b", 1), ("a", 1)), (("a",),), (("a", 1, 1),), (("a", True),), (("a", "1"),), ((1, "a"),),
                      ("a", 1), ("aa",), (("a", 1), ("b", 1), ("b", 1)), (("a", 1), ("b", 0)), [("a", 1)],
                      (["a", 1],), None, (None,)):
            self.no(BENT, nothing + (rings,))
            self.no(LOOSE, nothing + (rings,))

    def test_lists_for_tuples(self):
        for stock, graph in ((LOOSE, LOOSE_GRAPH), (BENT, BENT_GRAPH), (LOOSE, ((), (), (), (), ()))):
            for thing in with_lists(graph):
                self.no(stock, thing)

    def test_a_part_more_or_less(self):
        for stock, graph in ((LOOSE, LOOSE_GRAPH), (BENT, BENT_GRAPH)):
            fixed = [(), (0,), (1,)] + [(4, k) for k in range(len(graph[4]))]
            for k in range(len(graph[3])):
                fixed += [(3, k), (3, k, 0), (3, k, 1)]
            for thing in with_more(graph):
                self.no(stock, thing)
            for path in fixed:
                for thing in less_and_twice(graph, path):
                    self.no(stock, thing)
            for k, name in enumerate(graph[2]):
                if name != "dot":
                    self.no(stock, put_at(graph, (2,), graph[2][:k] + graph[2][k + 1:]))
                    self.no(stock, put_at(graph, (2,), graph[2] + (name,)))

    def test_things_of_other_kinds_at_each_place(self):
        def is_ring_count(path, odd):
            return len(path) == 3 and path[0] == 4 and path[2] == 1 and type(odd) is int and odd > 0

        for stock, graph in ((LOOSE, LOOSE_GRAPH), (BENT, BENT_GRAPH)):
            for thing in with_odd(graph, is_ring_count):
                self.no(stock, thing)
            for thing in ODD:
                self.no(stock, thing)

    def test_beyond_the_bounds_nothing_is_refused(self):
        for stock in (LOOSE, BENT):
            picture = (("a",) * 20, tuple((i % 19, ("box", "same")) for i in range(300)))
            self.yes(stock, graph_of(stock, picture))
            self.yes(stock, ((), (), ("dot",) * 2000, (), ()))
