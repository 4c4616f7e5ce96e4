import copy
import itertools
import random
import unittest

from oracles import (
    all_matchings, chance_place, chance_rule, done_anew, down, finds_anew, meetings_anew, numbered_otherwise,
    rested_anew, rested_by_chance, ties, up,
)
from samples import BENT, FEW, ODD, RULED, less_and_twice, put_at, same, with_lists, with_more, with_odd
from slidewires.finds import finds
from slidewires.graphs import graph_of, is_graph
from slidewires.meetings import is_two, looked_over, meetings
from slidewires.picturetexts import read_picture
from slidewires.resting import at_rest, is_row
from slidewires.spelling import are_alike


def graph(text, stock=RULED):
    return graph_of(stock, read_picture(stock, text))


def rule(left, right):
    return (graph(left), graph(right))


CHAIN = rule("a | 0 f | 0 f", "a")
EATEN = rule("a | 0 f | 0 g", "a | 0 g")
LOST = rule("a | 0 f | 0 g", "a | 0 f")
SHORT = rule("a | 0 f | 0 f | 0 f", "a | 0 g")
ALONE = rule("a | 0 f", "a")
BACK = rule("a | 0 w | 0 m", "a")
TWO = (rule("a | 0 f | 0 g", "a | 0 f"), rule("a | 0 g | 0 f", "a | 0 g"))
MANY_RULES = (
    (CHAIN,), (EATEN,), (CHAIN, EATEN), (EATEN, LOST), (SHORT,), (SHORT, CHAIN), (ALONE,), (ALONE, CHAIN, SHORT), (BACK,),
    (BACK, CHAIN), TWO, (CHAIN, CHAIN),
)


class Meetings(unittest.TestCase):
    def told(self, stock, rules):
        before = copy.deepcopy(rules)
        told = meetings(stock, rules)
        self.assertIs(type(told), list)
        self.assertEqual(len(told), len(set(told)))
        expected = meetings_anew(stock, rules)
        self.assertTrue(same(sorted(told), sorted(expected)), rules)
        for one in told:
            self.holds(stock, rules, one)
        again = meetings(stock, rules)
        self.assertTrue(same(again, told))
        self.assertIsNot(again, told)
        again.append(None)
        again.reverse()
        self.assertTrue(same(meetings(stock, rules), told))
        self.assertTrue(same(rules, before))
        return told

    def holds(self, stock, rules, one):
        here, i, find, j, other = one
        self.assertIs(is_graph(stock, here), True)
        self.assertTrue(0 <= i <= j < len(rules))
        self.assertEqual(find, tuple(range(1, len(rules[i][0][2]) + 1)))
        self.assertIn(find, finds_anew(here, rules[i][0]))
        self.assertIn(other, finds_anew(here, rules[j][0]))
        self.assertTrue(set(find) & set(other))
        self.assertEqual(set(find) | set(other), set(range(1, len(here[2]) + 1)))
        self.assertNotEqual((i, find), (j, other))
        alone = [number for number in other if number not in find]
        self.assertEqual(alone, sorted(alone))
        self.assertEqual((here[0], here[4]), ((), ()))
        outer = [tie for tie in here[3] if tie[0][0] == 0]
        self.assertEqual([foot for foot, box in outer], [down(0, k) for k in range(len(here[1]))])
        self.assertEqual([box for foot, box in outer], sorted(box for foot, box in outer))

    def test_of_one_rule_with_itself(self):
        told = self.told(RULED, (CHAIN,))
        ring = ((), (), ("f", "f"), ties((down(1, 0), up(2, 0)), (up(1, 0), down(2, 0))), ())
        behind = ((), ("a", "a"), ("f", "f", "f"), ties(
            (down(1, 0), up(2, 0)), (down(2, 0), up(3, 0)), (down(0, 0), up(1, 0)), (down(0, 1), down(3, 0))), ())
        ahead = ((), ("a", "a"), ("f", "f", "f"), ties(
            (down(1, 0), up(2, 0)), (down(3, 0), up(1, 0)), (down(0, 0), down(2, 0)), (down(0, 1), up(3, 0))), ())
        expected = [(ring, 0, (1, 2), 0, (2, 1)), (behind, 0, (1, 2), 0, (2, 3)), (ahead, 0, (1, 2), 0, (3, 1))]
        self.assertEqual(sorted(told), sorted(expected))

    def test_a_rule_of_one_box(self):
        self.assertEqual(self.told(RULED, (ALONE,)), [])
        self.assertEqual(self.told(RULED, (rule("- | 0 dot", "-"),)), [])
        self.assertEqual(self.told(RULED, (ALONE, rule("a | 0 g", "a"))), [])
        one = ((), ("a", "a"), ("f",), ties((down(0, 0), down(1, 0)), (down(0, 1), up(1, 0))), ())
        self.assertEqual(self.told(RULED, (ALONE, ALONE)), [(one, 0, (1,), 1, (1,))])

    def test_no_rules(self):
        self.assertEqual(self.told(RULED, ()), [])

    def test_of_two_rules(self):
        told = self.told(RULED, (CHAIN, EATEN))
        pairs = {(i, j) for here, i, find, j, other in told}
        self.assertEqual(pairs, {(0, 0), (0, 1)})
        told = self.told(RULED, (EATEN, CHAIN))
        self.assertEqual({(i, j) for here, i, find, j, other in told}, {(0, 1), (1, 1)})
        self.told(RULED, TWO)
        # One box tied twice: what the lefts tie otherwise can't meet there.
        told = self.told(RULED, (BACK, rule("a | 0 w | 0 cross | 0 m", "a")))
        self.assertEqual([len(here[2]) for here, i, find, j, other in told], [])

    def test_of_three_rules(self):
        for rules in MANY_RULES:
            self.told(RULED, rules)
        told = self.told(RULED, (CHAIN, SHORT, EATEN))
        pairs = {(i, j) for here, i, find, j, other in told}
        self.assertEqual(pairs, {(0, 0), (0, 1), (0, 2), (1, 1), (1, 2)})

    def test_boxes_without_feet_and_loops(self):
        dot = rule("- | 0 dot", "-")
        self.told(RULED, (dot, dot, dot))
        loop = rule("- | 0 cup a | 0 f | 0 cap", "-")
        self.told(RULED, (loop, ALONE))
        self.told(RULED, (loop, CHAIN))
        three = rule("- | 0 cup a | 0 f | 0 f | 0 f | 0 cap", "-")
        self.assertEqual(len(self.told(RULED, (three,))), 2)

    def test_by_chance(self):
        chance = random.Random(241)
        many = 0
        for stock in (RULED, BENT, FEW):
            for _ in range(100):
                rules = tuple(chance_rule(stock, chance) for _ in range(chance.randrange(1, 4)))
                many += len(self.told(stock, rules)) > 1
        self.assertGreater(many, 30)

    def test_wide_boxes(self):
        stock = ("bent", ("a",), (("big", ("a",) * 4, ("a",) * 4),))
        left = (("a",) * 8, ("a",) * 12, ("big",) * 3, ties(
            (down(1, 0), up(2, 0)), (down(2, 3), up(3, 3)),
            *[(up(0, i), up(1, i)) for i in range(4)], *[(up(0, 3 + i), up(2, i)) for i in range(1, 4)],
            (up(0, 7), up(3, 0)), (down(0, 0), up(3, 1)), (down(0, 1), up(3, 2)),
            *[(down(0, 1 + i), down(1, i)) for i in range(1, 4)], *[(down(0, 5 + i), down(2, i)) for i in range(3)],
            *[(down(0, 8 + i), down(3, i)) for i in range(4)]), ())
        right = (left[0], left[1], (), ties(*zip([up(0, i) for i in range(8)] + [down(0, i) for i in range(2)],
                                                 [down(0, i) for i in range(2, 12)])), ())
        self.assertTrue(is_graph(stock, left) and is_graph(stock, right))
        self.told(stock, ((left, right),))


class LookedOver(unittest.TestCase):
    def told(self, stock, rules):
        before = copy.deepcopy(rules)
        told = looked_over(stock, rules)
        self.assertTrue(same(looked_over(stock, rules), told))
        self.assertTrue(same(rules, before))
        apart = [one for one in meetings_anew(stock, rules) if self.parts(stock, rules, one)]
        self.assertEqual(told[0], "two" if apart else "one")
        if apart:
            self.assertEqual(len(told), 4)
            self.two(stock, rules, told)
        else:
            self.assertTrue(same(told, ("one",)))
        return told[0]

    def parts(self, stock, rules, one):
        here, i, find, j, other = one
        ends = [rested_anew(stock, done_anew(stock, here, rules[number], at), rules)[0]
                for number, at in ((i, find), (j, other))]
        return all_matchings(*ends) == ()

    def two(self, stock, rules, told):
        kind, here, row, other = told
        ends = []
        for thing in (row, other):
            end = here
            for number, find in thing:
                end = done_anew(stock, end, rules[number], find)
            ends.append(end)
            self.assertIs(is_row(stock, here, rules, thing, end), True)
            self.assertEqual([finds(stock, end, one) for one in rules], [()] * len(rules))
        self.assertEqual(all_matchings(*ends), ())
        self.assertIs(is_two(stock, rules, told), True)

    def test_rules_that_are_one(self):
        for rules in ((), (CHAIN,), (EATEN,), (ALONE,), (CHAIN, CHAIN), (BACK,), (rule("- | 0 dot", "-"),),
                      (rule("a | 0 f | 0 f", "a | 0 f"),), (EATEN, rule("a | 0 g | 0 g", "a | 0 g")),
                      (rule("a | 0 f", "a"), rule("a | 0 g", "a")),
                      (CHAIN, EATEN, rule("a | 0 g | 0 g | 0 g", "a | 0 g | 0 dot"))):
            self.assertEqual(self.told(RULED, rules), "one")

    def test_rules_that_are_two(self):
        for rules in ((EATEN, LOST), TWO, (rule("a | 0 f | 0 f", "a | 0 g"),), (SHORT,),
                      (CHAIN, rule("a | 0 f | 0 f", "a | 0 g")),
                      (rule("a | 0 f", "a"), rule("a | 0 f", "a | 0 cup a | 0 cap")), (CHAIN, LOST, SHORT)):
            self.assertEqual(self.told(RULED, rules), "two", rules)

    def test_turned_in_itself(self):
        """One place, found by two tuples, that comes to two graphs."""
        left = ((), ("a", "a"), ("f", "f"), ties(
            (up(1, 0), up(2, 0)), (down(0, 0), down(1, 0)), (down(0, 1), down(2, 0))), ())
        right = ((), ("a", "a"), ("g",), ties((down(0, 0), up(1, 0)), (down(0, 1), down(1, 0))), ())
        self.assertEqual(self.told(RULED, ((left, right),)), "two")
        straight = ((), ("a", "a"), (), ties((down(0, 0), down(0, 1))), ())
        self.assertEqual(self.told(RULED, ((left, straight),)), "one")

    def test_all_samples(self):
        for rules in MANY_RULES:
            self.told(RULED, rules)

    def test_by_chance(self):
        chance = random.Random(242)
        many = {"one": 0, "two": 0}
        for stock in (RULED, BENT, FEW):
            for _ in range(100):
                rules = tuple(chance_rule(stock, chance) for _ in range(chance.randrange(1, 4)))
                many[self.told(stock, rules)] += 1
        self.assertGreater(min(many.values()), 30)

    def test_where_it_is_one_all_rows_come_to_alike_graphs(self):
        chance = random.Random(243)
        many = 0
        for k in range(400):
            stock = (RULED, BENT, FEW, RULED)[k % 4]
            rules = tuple(chance_rule(stock, chance) for _ in range(chance.randrange(1, 4)))
            if k % 4 == 0:
                rules = chance.choice(MANY_RULES)
            if looked_over(stock, rules) != ("one",):
                continue
            lefts = [chance.choice(rules)[0] for _ in range(3)]
            here = chance_place(stock, chance, lefts, 2)
            end, row = at_rest(stock, here, rules)
            for _ in range(4):
                other, more = rested_by_chance(stock, here, rules, chance)
                self.assertTrue(are_alike(stock, end, other), (here, rules, row, more))
                self.assertIs(is_two(stock, rules, ("two", here, row, more)), False)
                many += row != more
        self.assertGreater(many, 200)


class IsTwo(unittest.TestCase):
    def told(self, rules, thing, expected, stock=RULED):
        before = copy.deepcopy((rules, thing))
        for _ in range(2):
            self.assertIs(is_two(stock, rules, thing), expected, thing)
        self.assertTrue(same((rules, thing), before))

    def samples(self):
        for rules in ((EATEN, LOST), TWO, (SHORT,), (CHAIN, rule("a | 0 f | 0 f", "a | 0 g"))):
            told = looked_over(RULED, rules)
            self.told(rules, told, True)
            yield rules, told

    def test_of_any_graph(self):
        rules = (EATEN, LOST)
        here = graph("a | 0 f | 0 g")
        self.told(rules, ("two", here, ((0, (1, 2)),), ((1, (1, 2)),)), True)
        self.told(rules, ("two", here, ((1, (1, 2)),), ((0, (1, 2)),)), True)
        self.told(rules, ("two", here, ((0, (1, 2)),), ((0, (1, 2)),)), False)
        self.told(rules, ("two", here, ((0, (1, 2)),), ()), False)
        self.told(rules, ("two", here, (), ((0, (1, 2)),)), False)
        self.told(rules, ("two", graph("a"), (), ()), False)
        self.told((), ("two", graph("a"), (), ()), False)
        here = graph("a | 0 f | 0 g | 0 dot")
        self.told(rules, ("two", here, ((0, (1, 2)),), ((1, (1, 2)),)), True)

    def test_short_of_rest(self):
        rules = (EATEN, LOST)
        here = graph("a | 0 f | 0 f | 0 g")
        self.told(rules, ("two", here, ((0, (2, 3)), (0, (1, 2))), ((1, (2, 3)),)), True)
        self.told(rules, ("two", here, ((0, (2, 3)),), ((1, (2, 3)),)), False)
        self.told(rules, ("two", here, ((1, (2, 3)),), ((0, (2, 3)),)), False)

    def test_alike_graphs_numbered_otherwise(self):
        rules = (rule("a | 0 f | 0 f", "a | 0 f"),)
        here = graph("a a | 0 f | 1 f | 0 f | 1 f")
        self.told(rules, ("two", here, ((0, (1, 3)), (0, (1, 2))), ((0, (2, 4)), (0, (1, 2)))), False)

    def test_one_thing_put_otherwise(self):
        for rules, told in self.samples():
            for kind in ("", "one", "Two", "two ", 2, None, True, ("two",), ["two"]):
                self.told(rules, (kind,) + told[1:], False)
            self.told(rules, told[:2] + (told[2], told[2]), False)
            self.told(rules, told[:2] + (told[3], told[3]), False)
            self.told(rules, told[:2] + (told[3], told[2]), True)
            for k in (2, 3):
                for thing in less_and_twice(told, (k,)):
                    self.told(rules, thing, False)
                for step in range(len(told[k])):
                    for number in (-1, len(rules), 10**39, True, False, "0", None):
                        self.told(rules, put_at(told, (k, step, 0), number), False)
                    for thing in less_and_twice(told, (k, step)) + less_and_twice(told, (k, step, 1)):
                        self.told(rules, thing, False)
            for thing in less_and_twice(told, ()) + less_and_twice(told, (1,)):
                self.told(rules, thing, False)

    def test_another_graph(self):
        for rules, told in self.samples():
            for text in ("-", "a", "a | 0 f", "- | 0 dot"):
                self.told(rules, put_at(told, (1,), graph(text)), False)
            order = list(range(len(told[1][2]), 0, -1))
            turned = put_at(told, (1,), numbered_otherwise(told[1], order))
            self.assertIs(type(is_two(RULED, rules, turned)), bool)

    def test_of_anything(self):
        for thing in ODD + ((), ("one",), ("two",), ("two", (), (), ())):
            self.told((EATEN, LOST), thing, False)
        for rules, told in self.samples():
            for thing in with_lists(told) + with_more(told):
                self.told(rules, thing, False)
            for thing in with_odd(told):
                self.assertIs(is_two(RULED, rules, thing), False, thing)

    def test_great_graphs(self):
        rules = (EATEN, LOST)
        here = graph("a" + " | 0 g" * 200 + " | 0 f | 0 g")
        self.told(rules, ("two", here, ((0, (201, 202)),), ((1, (201, 202)),)), True)
        self.told(rules, ("two", here, ((0, (201, 202)),), ((0, (201, 202)),)), False)
        dots = ((), (), ("dot",) * 1500, (), ())
        self.told((rule("- | 0 dot", "-"),), ("two", dots, ((0, (1,)),) * 300, ((0, (2,)),) * 300), False)
        self.told((EATEN,), ("two", dots, (), ()), False)


class AllSmall(unittest.TestCase):
    def test_all_rules_of_two_boxes_in_a_row(self):
        """f and g in rows: each rule puts a shorter row for a row; words, so to say."""
        rows = ["a" + "".join(f" | 0 {name}" for name in names) for many in range(4)
                for names in itertools.product("fg", repeat=many)]
        rules = [rule(left, right) for left in rows for right in rows
                 if left.count("|") in (1, 2) and right.count("|") < left.count("|")]
        looker = LookedOver()
        many = {"one": 0, "two": 0}
        for pair in itertools.combinations(rules, 2):
            many[looker.told(RULED, pair)] += 1
        self.assertGreater(min(many.values()), 20)
