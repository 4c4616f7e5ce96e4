import copy
import random
import unittest

from oracles import chance_left, chance_rule, numbered_otherwise, paired, sorts_of_feet, ties
from samples import BENT, BRAID, LOOSE, ODD, RULED, less_and_twice, put_at, same, with_lists, with_more, with_odd
from slidewires.graphs import graph_of, is_graph
from slidewires.picturetexts import read_picture
from slidewires.rules import is_rule


def graph(text):
    return graph_of(RULED, read_picture(RULED, text))


class Rules(unittest.TestCase):
    def told(self, stock, thing, expected):
        before = copy.deepcopy(thing)
        for _ in range(2):
            self.assertIs(is_rule(stock, thing), expected, thing)
        self.assertTrue(same(thing, before))

    def texts(self, left, right, expected):
        self.told(RULED, (graph(left), graph(right)), expected)

    def test_rules(self):
        self.texts("a | 0 f", "a", True)
        self.texts("a | 0 f | 0 f", "a", True)
        self.texts("a | 0 f | 0 f", "a | 0 g", True)
        self.texts("a | 0 f | 0 g | 0 f", "a | 0 g | 0 g", True)
        self.texts("a | 0 w | 0 m", "a", True)
        self.texts("- | 0 u | 0 e", "-", True)
        self.texts("- | 0 dot", "-", True)
        self.texts("- | 0 cup a | 0 f | 0 cap", "-", True)
        self.texts("- | 0 cup a | 0 f | 0 cap", "- | 0 cup a | 0 cap", True)
        self.texts("a a | 0 m | 0 e", "a a | 0 cap", True)
        self.texts("- | 0 u | 0 w", "- | 0 cup a", True)
        self.texts("a b | 0 x | 0 cross | 0 x", "a b | 0 x", True)

    def test_how_many_boxes_left_has(self):
        self.texts("a", "a", False)
        self.texts("-", "-", False)
        self.texts("a | 0 f | 0 f | 0 f", "a", True)
        self.texts("a | 0 f | 0 f | 0 f | 0 f", "a", False)
        self.texts("a" + " | 0 f" * 8, "a", False)

    def test_right_has_fewer(self):
        self.texts("a | 0 f", "a | 0 g", False)
        self.texts("a | 0 f", "a | 0 f", False)
        self.texts("a | 0 f", "a | 0 g | 0 g", False)
        self.texts("a | 0 f | 0 f", "a | 0 f | 0 f", False)
        self.texts("a | 0 f | 0 f", "a | 0 dot", True)
        self.texts("a | 0 f | 0 f", "a | 0 f | 0 dot", False)
        self.texts("a | 0 f | 0 f | 0 f", "a | 0 f | 0 dot", True)

    def test_boxes_that_hang_together(self):
        self.texts("a a | 0 f | 1 f", "a a", False)
        self.texts("a a a a | 0 m | 1 m | 0 f", "a a a a | 0 f | 1 cap", False)
        self.texts("- | 0 dot | 0 dot", "-", False)
        self.texts("a | 0 f | 0 dot", "a", False)
        self.texts("a a | 0 f | 0 f | 1 f", "a a", False)
        self.texts("a a | 0 f | 1 f | 0 m", "a a | 0 m", True)
        self.texts("a a a | 0 m | 0 m", "a a a | 0 e | 0 cap", False)
        self.texts("a a a | 0 m | 0 m", "a a a | 1 cap", True)
        self.texts("a a | 0 m | 0 w | 0 f", "a a", True)
        self.texts("a a | 0 m | 0 w | 0 f", "a a | 0 f | 1 g", True)
        # Boxes in the order 1 to 3, 3 to 2: the second is come to by the third.
        three = graph("a | 0 f | 0 g | 0 f")
        for order in ((1, 3, 2), (2, 1, 3), (3, 1, 2), (3, 2, 1), (2, 3, 1)):
            self.told(RULED, (numbered_otherwise(three, order), graph("a")), True)

    def test_rings_of_left(self):
        self.texts("a | 0 f | 0 cup a | 0 cap", "a", False)
        self.texts("a | 0 f | 0 cup b | 0 cap", "a | 0 cup b | 0 cap", False)
        self.texts("a | 0 f", "a | 0 cup b | 0 cap", True)

    def test_ties_of_two_own_feet_of_left(self):
        self.texts("a b | 0 f", "a b", False)
        self.texts("b b a | 0 cap | 0 f", "b b a | 0 cap", False)
        self.texts("a | 0 f | 0 cup b", "a | 0 cup b", False)
        self.texts("a b b | 0 f", "a b b", False)
        self.texts("a a a | 0 m", "a a a | 0 cap", False)
        self.texts("a a | 0 m", "a a | 0 cup a | 0 cap", False)

    def test_sides_with_other_feet(self):
        self.texts("a | 0 f", "a a", False)
        self.texts("a | 0 f", "b", False)
        self.texts("a | 0 f", "-", False)
        self.texts("a | 0 f", "- | 0 cup a", False)
        self.texts("a b | 0 x", "a b", False)
        self.texts("a b | 0 x", "a b | 0 cross", True)
        self.texts("b a | 0 cross | 0 x", "b a", True)
        self.texts("a a | 0 m", "a a | 0 cap", False)

    def test_other_manners(self):
        rule = (graph("a | 0 f | 0 f"), graph("a"))
        for manner in ("loose", "braid"):
            stock = (manner,) + RULED[1:] if manner == "loose" else (manner, RULED[1], ())
            self.told(stock, rule, False)
        self.told(BRAID, rule, False)
        loose = tuple(graph_of(LOOSE, read_picture(LOOSE, text)) for text in ("a b | 0 f | 0 g", "a b | 0 cross"))
        self.assertTrue(is_graph(LOOSE, loose[0]) and is_graph(LOOSE, loose[1]))
        self.told(LOOSE, loose, False)
        self.told(BENT, loose, True)

    def test_names_of_another_stock(self):
        self.told(BENT, (graph("a | 0 f | 0 f"), graph("a")), False)
        self.told(BENT, (graph("a | 0 w"), graph("a | 0 cup a | 0 e")), False)

    def test_chance_rules(self):
        chance = random.Random(211)
        for stock in (RULED, BENT):
            for _ in range(200):
                left, right = chance_rule(stock, chance)
                self.told(stock, (left, right), True)
                self.told(stock, (right, left), False)
                self.told(stock, (left, left), False)
                self.told(stock, (left, right[:2] + (right[2] + left[2],) + right[3:]), False)
                self.told(stock, (left[:4] + ((("a", 1),),), right), False)
                self.told(stock, (left[:4] + ((("b", 2),),), right), False)

    def test_two_lefts_beside_one_another(self):
        chance = random.Random(212)
        many = 0
        for _ in range(100):
            one, other = chance_left(RULED, chance, 1), chance_left(RULED, chance, 2)
            moved = [tuple(
                (0, side, i + len((one[0], one[1])[side == "down"])) if number == 0 else (number + len(one[2]), side, i)
                for number, side, i in tie) for tie in other[3]]
            both = (one[0] + other[0], one[1] + other[1], one[2] + other[2], ties(*one[3], *moved), ())
            self.assertTrue(is_graph(RULED, both))
            own = {foot: sort for foot, sort in sorts_of_feet(RULED, both).items() if foot[0] == 0}
            pairs = paired(RULED, own, chance)
            if pairs is not None:
                many += 1
                right = both[:2] + ((), ties(*pairs), ())
                self.assertTrue(is_graph(RULED, right))
                self.told(RULED, (both, right), False)
        self.assertGreater(many, 20)


class Anything(unittest.TestCase):
    def told(self, stock, thing, expected):
        before = copy.deepcopy(thing)
        for _ in range(2):
            self.assertIs(is_rule(stock, thing), expected, thing)
        self.assertTrue(same(thing, before))

    def rules(self):
        yield (graph("a | 0 w | 0 m"), graph("a | 0 cup b | 0 cap"))
        yield (graph("a b | 0 x | 0 cross | 0 x | 1 f"), graph("a b | 0 x"))
        yield (graph("- | 0 dot"), graph("-"))

    def test_odd_things(self):
        for thing in ODD + ((), ((), ())):
            for stock in (RULED, BENT, LOOSE, BRAID):
                self.told(stock, thing, False)
        for rule in self.rules():
            self.told(RULED, rule, True)
            # Another number of rings may be right.
            for thing in with_odd(rule, lambda path, odd: path == (1, 4, 0, 1) and type(odd) is int and odd > 0):
                self.told(RULED, thing, False)

    def test_lists_more_and_less(self):
        for rule in self.rules():
            for thing in with_lists(rule) + with_more(rule) + less_and_twice(rule, ()):
                self.told(RULED, thing, False)
            for side in (0, 1):
                for thing in less_and_twice(rule, (side,)):
                    self.told(RULED, thing, False)
                for thing in less_and_twice(rule, (side, 3)):
                    self.told(RULED, thing, False)

    def test_truths_for_numbers(self):
        rule = (graph("a | 0 f"), graph("a | 0 cup a | 0 cap"))
        self.told(RULED, rule, True)
        self.told(RULED, put_at(rule, (0, 3, 0, 1, 0), True), False)
        self.told(RULED, put_at(rule, (0, 3, 0, 0, 0), False), False)
        self.told(RULED, put_at(rule, (0, 3, 0, 0, 2), False), False)
        self.told(RULED, put_at(rule, (1, 4, 0, 1), True), False)

    def test_great_things(self):
        dots = ((), (), ("dot",) * 2000, (), ())
        self.told(RULED, (dots, graph("-")), False)
        self.told(RULED, (graph("- | 0 dot"), dots), False)
        self.told(RULED, (graph("- | 0 dot"), ((), (), (), (), (("a", 10**39), ("b", 10**39)))), True)
