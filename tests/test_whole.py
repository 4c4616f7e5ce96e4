"""What the document promises over the whole program, told by several modules together."""

import random
import unittest

from oracles import (
    all_matchings, braid_slid_about, chance_braid, chance_graph, chance_left, chance_place, chance_relations,
    chance_tables, down, finds_anew, numbered_otherwise, relation_anew, slid_about, table_anew, ties, up, widths,
    words_anew,
)
from samples import BENT, BRAID, LOOSE, RULED, chance_picture, same
from slidewires.braids import words_of
from slidewires.braidslides import braid_walks, braids_compared
from slidewires.checker import has_fewest, is_measure, walks
from slidewires.comparing import compared
from slidewires.drawing import drawn, plain
from slidewires.finds import done, finds
from slidewires.graphs import graph_of
from slidewires.meetings import looked_over
from slidewires.picturetexts import read_picture, show_picture
from slidewires.relations import read_relation
from slidewires.resting import at_rest
from slidewires.rules import is_rule
from slidewires.spelling import are_alike, spelled
from slidewires.stocktexts import read_stock, show_stock
from slidewires.tables import read_table


class BackToEachOther(unittest.TestCase):
    """A picture, its text, its graph and its plain form."""

    def pictures(self, many, seed):
        chance = random.Random(seed)
        for stock in (LOOSE, BENT, RULED):
            for _ in range(many):
                yield chance, stock, chance_picture(stock, chance, most_layers=14)[0]

    def test_texts(self):
        chance = random.Random(262)
        braids = [(chance, BRAID, chance_braid(BRAID, chance)) for _ in range(60)]
        for chance, stock, picture in list(self.pictures(60, 261)) + braids:
            self.assertTrue(same(read_stock(show_stock(stock)), stock))
            self.assertTrue(same(read_picture(stock, show_picture(stock, picture)), picture))
            if stock[0] != "braid":
                form = plain(stock, picture)
                self.assertTrue(same(read_picture(stock, show_picture(stock, form)), form))

    def test_graphs_and_plain_forms(self):
        for chance, stock, picture in self.pictures(60, 263):
            graph = graph_of(stock, picture)
            form = plain(stock, picture)
            self.assertTrue(are_alike(stock, graph_of(stock, form), graph))
            self.assertTrue(are_alike(stock, graph_of(stock, drawn(stock, graph)), graph))
            self.assertTrue(same(plain(stock, form), form))
            self.assertTrue(same(plain(stock, drawn(stock, graph)), form))
            self.assertTrue(same(plain(stock, slid_about(stock, picture, chance, 8)[0]), form))
            self.assertTrue(same(spelled(stock, graph_of(stock, form)), spelled(stock, graph)))

    def test_compared_with_its_plain_form(self):
        for chance, stock, picture in self.pictures(12, 264):
            form = plain(stock, picture)
            told = compared(stock, picture, form)
            self.assertEqual(told[0], "alike")
            self.assertIs(walks(stock, picture, form, told[1]), True)
            if len(graph_of(stock, picture)[2]) < 7:
                self.assertIs(has_fewest(stock, picture, form, told[1]), True)

    def test_never_neither_and_never_both(self):
        chance = random.Random(265)
        told = {"alike": 0, "unlike": 0}
        for stock in (LOOSE, BENT):
            for _ in range(60):
                one = chance_picture(stock, chance, most_layers=8)[0]
                other = slid_about(stock, one, chance, 6)[0]
                if chance.randrange(2):
                    other = chance_picture(stock, chance, most_layers=8, above=one[0])[0]
                kind, what = compared(stock, one, other)
                told[kind] += 1
                graphs = graph_of(stock, one), graph_of(stock, other)
                if len(graphs[0][2]) < 6:
                    self.assertEqual(kind == "alike", all_matchings(*graphs) != ())
                self.assertIs(walks(stock, one, other, what), kind == "alike")
                self.assertIs(is_measure(stock, one, other, what), kind == "unlike")
        self.assertGreater(min(told.values()), 20)


class Braided(unittest.TestCase):
    def test_alike_are_just_those_that_do_the_same_to_all_letters(self):
        chance = random.Random(266)
        told = {True: 0, False: 0}
        for _ in range(150):
            one = chance_braid(BRAID, chance, 9, chance.randrange(2, 5))
            other = braid_slid_about(one, chance, 4)[0]
            if chance.randrange(2):
                other = (one[0], chance_braid(BRAID, chance, 5, len(one[0]))[1])
            kind, what = braids_compared(BRAID, one, other)
            if what == ("feet",):
                continue
            told[kind == "alike"] += 1
            self.assertEqual(kind == "alike", words_anew(one) == words_anew(other))
            self.assertEqual(kind == "alike", words_of(BRAID, one) == words_of(BRAID, other))
            if kind == "alike" and what is not None:
                self.assertIs(braid_walks(BRAID, one, other, what), True)
        self.assertGreater(min(told.values()), 20)


class RulesAndReadings(unittest.TestCase):
    """A rule done anywhere changes no reading under which its sides read the same."""

    def widest(self, stock, sizes, graph):
        return max(widths(stock, sizes, drawn(stock, graph)))

    def put_for(self, chance, sizes):
        """A left of several boxes, and for it a box of its feet, that is read as left is."""
        while True:
            left = chance_left(RULED, chance)
            if len(left[2]) > 1 and max(len(left[0]), len(left[1])) <= 4 and self.widest(RULED, sizes, left) <= 81:
                break
        stock = (RULED[0], RULED[1], RULED[2][:7] + (("put", left[0], left[1]),))
        pairs = [(up(0, i), up(1, i)) for i in range(len(left[0]))]
        pairs += [(down(0, i), down(1, i)) for i in range(len(left[1]))]
        return stock, (left, left[:2] + (("put",), ties(*pairs), ()))

    def places(self, many, seed):
        chance = random.Random(seed)
        done_many = 0
        while done_many < many:
            sizes = chance.choice(((2, 1), (2, 2), (1, 2), (1, 3), (3, 1)))
            stock, rule = self.put_for(chance, sizes)
            if "dot" in rule[0][2]:
                continue
            self.assertTrue(is_rule(stock, rule))
            here = chance_place(stock, chance, [rule[0]] * chance.randrange(1, 3), 2)
            if self.widest(stock, sizes, here) <= 81:
                done_many += 1
                yield chance, stock, sizes, rule, here

    def test_tables(self):
        read = 0
        for chance, stock, sizes, rule, here in self.places(60, 267):
            filling = chance_tables(stock, sizes, chance, 2)
            filling = (sizes, filling[1][:7] + (read_table(stock, filling, drawn(stock, rule[0])),))
            self.assertTrue(same(read_table(stock, filling, drawn(stock, rule[1])), filling[1][7]))
            told = read_table(stock, filling, drawn(stock, here))
            for find in finds(stock, here, rule):
                then = done(stock, here, rule, find)
                if self.widest(stock, sizes, then) <= 81:
                    read += 1
                    self.assertTrue(same(read_table(stock, filling, drawn(stock, then)), told))
        self.assertGreater(read, 50)

    def test_relations(self):
        read = 0
        for chance, stock, sizes, rule, here in self.places(60, 268):
            filling = chance_relations(stock, sizes, chance)
            filling = (sizes, filling[1][:7] + (read_relation(stock, filling, drawn(stock, rule[0])),))
            self.assertTrue(same(read_relation(stock, filling, drawn(stock, rule[1])), filling[1][7]))
            told = read_relation(stock, filling, drawn(stock, here))
            for find in finds(stock, here, rule):
                then = done(stock, here, rule, find)
                if self.widest(stock, sizes, then) <= 81:
                    read += 1
                    self.assertTrue(same(read_relation(stock, filling, drawn(stock, then)), told))
        self.assertGreater(read, 50)

    def test_rings_that_come_and_wires_that_go_through(self):
        stock = ("bent", ("a",), (("f", ("a",), ("a",)), ("m", ("a", "a"), ("a",)), ("w", ("a",), ("a", "a"))))

        def graph(text):
            return graph_of(stock, read_picture(stock, text))

        rules = (
            (graph("a | 0 f | 0 f"), graph("a")),
            (graph("a | 0 w | 0 m"), graph("a")),
        )
        # f exchanges the two worths: twice it does nothing. w makes two of one, m one of two that are the same.
        filling = ((2,), (((0, 1), (1, 0)), ((1, 0), (0, 0), (0, 0), (0, 1)), ((1, 0, 0, 0), (0, 0, 0, 1))))
        relations = ((2,), (
            (((0,), (1,)), ((1,), (0,))), (((0, 0), (0,)), ((1, 1), (1,))), (((0,), (0, 0)), ((1,), (1, 1))),
        ))
        for rule in rules:
            self.assertEqual(*[read_table(stock, filling, drawn(stock, side)) for side in rule])
            self.assertEqual(*[read_relation(stock, relations, drawn(stock, side)) for side in rule])
        chance = random.Random(269)
        rings = 0
        for _ in range(150):
            here = chance_place(stock, chance, [chance.choice(rules)[0] for _ in range(chance.randrange(1, 4))], 1)
            if self.widest(stock, (2,), here) > 81:
                continue
            then = at_rest(stock, here, rules)[0]
            rings += then[4] > here[4]
            if self.widest(stock, (2,), then) <= 81:
                told = read_table(stock, filling, drawn(stock, here))
                self.assertTrue(same(read_table(stock, filling, drawn(stock, then)), told))
                self.assertTrue(same(read_table(stock, filling, drawn(stock, then)), table_anew(stock, filling, then)))
                told = read_relation(stock, relations, drawn(stock, here))
                self.assertTrue(same(read_relation(stock, relations, drawn(stock, then)), told))
                self.assertTrue(same(told, relation_anew(stock, relations, then)))
        self.assertGreater(rings, 10)

    def test_a_rule_is_found_at_just_the_places_where_it_is(self):
        for chance, stock, sizes, rule, here in self.places(60, 270):
            found = finds(stock, here, rule)
            self.assertTrue(found)
            self.assertTrue(same(found, finds_anew(here, rule[0])))

    def test_numbering_does_not_matter_to_rest_where_it_is_one(self):
        many = 0
        for chance, stock, sizes, rule, here in self.places(60, 272):
            if looked_over(stock, (rule,)) == ("one",):
                order = list(range(1, len(here[2]) + 1))
                chance.shuffle(order)
                ends = [at_rest(stock, graph, (rule,))[0] for graph in (here, numbered_otherwise(here, order))]
                self.assertTrue(are_alike(stock, *ends))
                many += 1
        self.assertGreater(many, 10)

    def test_chance_graphs_drawn(self):
        chance = random.Random(273)
        for _ in range(60):
            graph = chance_graph(RULED, chance)
            self.assertTrue(same(graph_of(RULED, drawn(RULED, graph)), graph))
