import copy
import random
import unittest

from oracles import (
    chance_place, chance_rule, done_anew, finds_anew, is_find_anew, is_number, rested_anew, rested_by_chance,
)
from samples import BENT, ODD, RULED, less_and_twice, put_at, same, with_lists, with_more, with_odd
from slidewires.finds import finds
from slidewires.graphs import graph_of, is_graph
from slidewires.picturetexts import read_picture
from slidewires.resting import at_rest, is_row


def graph(text, stock=RULED):
    return graph_of(stock, read_picture(stock, text))


def rule(left, right):
    return (graph(left), graph(right))


def come_to(stock, here, rules, thing):
    """The graph behind the row, or None."""
    if type(thing) is not tuple:
        return None
    for step in thing:
        if type(step) is not tuple or len(step) != 2 or not is_number(step[0]) or not 0 <= step[0] < len(rules):
            return None
        if not is_find_anew(here, rules[step[0]][0], step[1]):
            return None
        here = done_anew(stock, here, rules[step[0]], step[1])
    return here


class Resting(unittest.TestCase):
    def samples(self, many, seed, most=3):
        chance = random.Random(seed)
        for stock in (RULED, BENT):
            for _ in range(many):
                rules = tuple(chance_rule(stock, chance) for _ in range(chance.randrange(1, most + 1)))
                lefts = [chance.choice(rules)[0] for _ in range(chance.randrange(4))]
                yield chance, stock, rules, chance_place(stock, chance, lefts, 3)


class AtRest(Resting):
    def told(self, stock, here, rules, expected):
        before = copy.deepcopy((here, rules))
        for _ in range(2):
            told = at_rest(stock, here, rules)
            self.assertTrue(same(told, expected), (here, rules, told, expected))
        self.assertTrue(same((here, rules), before))
        self.assertIs(is_graph(stock, told[0]), True)
        self.assertIs(is_row(stock, here, rules, told[1], told[0]), True)
        for one in rules:
            self.assertEqual(finds(stock, told[0], one), ())

    def test_no_rule_found(self):
        chain = rule("a | 0 f | 0 f", "a")
        for text in ("-", "a", "a | 0 f", "a a | 0 f | 1 f", "a | 0 f | 0 g | 0 f", "- | 0 cup a | 0 f | 0 cap"):
            self.told(RULED, graph(text), (chain,), (graph(text), ()))
            self.told(RULED, graph(text), (), (graph(text), ()))

    def test_one_rule(self):
        chain = rule("a | 0 f | 0 f", "a")
        self.told(RULED, graph("a | 0 f | 0 f"), (chain,), (graph("a"), ((0, (1, 2)),)))
        self.told(RULED, graph("a | 0 f | 0 f | 0 f"), (chain,), (graph("a | 0 f"), ((0, (1, 2)),)))
        self.told(RULED, graph("a" + " | 0 f" * 5), (chain,), (graph("a | 0 f"), ((0, (1, 2)), (0, (1, 2)))))
        ring = graph("- | 0 cup a | 0 f | 0 f | 0 cap")
        self.told(RULED, ring, (chain,), (graph("- | 0 cup a | 0 cap"), ((0, (1, 2)),)))
        one = rule("a | 0 f | 0 f", "a | 0 f")
        told = at_rest(RULED, graph("a" + " | 0 f" * 4), (one,))
        self.told(RULED, graph("a" + " | 0 f" * 4), (one,), (graph("a | 0 f"), told[1]))
        self.assertEqual(told[1], ((0, (1, 2)),) * 3)
        # The box put in is the last one: so it is tied to the first ones now.
        told = at_rest(RULED, graph("a" + " | 0 f" * 3), (one,))
        self.assertEqual(told[1], ((0, (1, 2)), (0, (2, 1))))

    def test_the_first_rule_first(self):
        one, other = rule("a | 0 f | 0 g", "a"), rule("a | 0 f | 0 f", "a | 0 g")
        here = graph("a | 0 f | 0 f | 0 g")
        self.told(RULED, here, (one, other), (graph("a | 0 f"), ((0, (2, 3)),)))
        self.told(RULED, here, (other, one), rested_anew(RULED, here, (other, one)))
        self.assertEqual(at_rest(RULED, here, (other, one))[1], ((0, (1, 2)),))
        here = graph("a | 0 f | 0 f | 0 f | 0 g")
        self.assertEqual(at_rest(RULED, here, (one, other))[1], ((0, (3, 4)), (1, (1, 2))))

    def test_a_rule_that_comes_in_again(self):
        one, other = rule("a | 0 f | 0 f", "a | 0 g"), rule("a | 0 g | 0 g", "a | 0 f")
        here = graph("a" + " | 0 f" * 8)
        self.told(RULED, here, (one, other), rested_anew(RULED, here, (one, other)))
        self.assertEqual(len(at_rest(RULED, here, (one, other))[1]), 7)

    def test_by_chance(self):
        long = 0
        for chance, stock, rules, here in self.samples(150, 231):
            expected = rested_anew(stock, here, rules)
            long += len(expected[1]) > 1
            self.told(stock, here, rules, expected)
        self.assertGreater(long, 60)

    def test_twelve_boxes(self):
        for text in ("a" + " | 0 f" * 12, "a a" + " | 0 m | 0 w" * 6, "a" + " | 0 f | 0 g" * 6):
            for rules in ((rule("a | 0 f | 0 f", "a"),), (rule("a | 0 g", "a"), rule("a | 0 f | 0 f | 0 f", "a | 0 g")),
                          (rule("a | 0 w | 0 m", "a"), rule("a a | 0 m | 0 w", "a a | 0 cross"))):
                self.told(RULED, graph(text), rules, rested_anew(RULED, graph(text), rules))


class IsRow(Resting):
    def judged(self, stock, here, rules, thing, end):
        before = copy.deepcopy((here, rules, thing, end))
        come = come_to(stock, here, rules, thing)
        expected = come is not None and same(come, end)
        for _ in range(2):
            self.assertIs(is_row(stock, here, rules, thing, end), expected, (here, rules, thing, end))
        self.assertTrue(same((here, rules, thing, end), before))
        return expected

    def test_without_steps(self):
        for chance, stock, rules, here in self.samples(30, 232):
            self.assertTrue(self.judged(stock, here, rules, (), here))
            self.assertTrue(self.judged(stock, here, (), (), here))
            other = chance_place(stock, chance, [rules[0][0]])
            self.assertEqual(self.judged(stock, here, rules, (), other), here == other)

    def test_any_finds_in_any_order_and_short_of_rest(self):
        whole = 0
        for chance, stock, rules, here in self.samples(60, 233):
            end, row = rested_by_chance(stock, here, rules, chance)
            self.assertTrue(self.judged(stock, here, rules, row, end))
            whole += len(row) > 1
            for k in range(len(row)):
                between = come_to(stock, here, rules, row[:k])
                self.assertTrue(self.judged(stock, here, rules, row[:k], between))
                self.assertTrue(self.judged(stock, between, rules, row[k:], end))
                self.assertFalse(self.judged(stock, here, rules, row[:k], end))
        self.assertGreater(whole, 25)

    def test_a_step_too_much_too_few_or_exchanged(self):
        refused = 0
        for chance, stock, rules, here in self.samples(60, 234):
            end, row = rested_by_chance(stock, here, rules, chance)
            for k in range(len(row)):
                for thing in (row[:k] + row[k + 1:], row[:k + 1] + row[k:], row[:k] + row[k:k + 2][::-1] + row[k + 2:]):
                    refused += not self.judged(stock, here, rules, thing, end)
        self.assertGreater(refused, 150)

    def test_another_end(self):
        one = rule("a | 0 f | 0 f", "a")
        here = graph("a | 0 g | 0 f | 0 f | 0 f")
        row = ((0, (2, 3)),)
        self.assertTrue(self.judged(RULED, here, (one,), row, graph("a | 0 g | 0 f")))
        for text in ("a", "a | 0 f | 0 g", "a | 0 g", "a | 0 g | 0 f | 0 f | 0 f", "a | 0 g | 0 f | 0 cup a | 0 cap"):
            self.assertFalse(self.judged(RULED, here, (one,), row, graph(text)))
        # An alike graph, numbered otherwise, is another end.
        end = graph("a | 0 g | 0 f")
        other = (end[0], end[1], ("f", "g"), tuple(sorted(
            tuple(sorted((3 - foot[0] if foot[0] else 0,) + foot[1:] for foot in tie)) for tie in end[3])), ())
        self.assertTrue(is_graph(RULED, other))
        self.assertFalse(self.judged(RULED, here, (one,), row, other))

    def test_ends_of_anything(self):
        one = rule("a | 0 f | 0 f", "a | 0 cup a | 0 cap")
        here = graph("a | 0 g | 0 f | 0 f")
        row = ((0, (2, 3)),)
        end = graph("a | 0 g | 0 cup a | 0 cap")
        self.assertTrue(self.judged(RULED, here, (one,), row, end))
        for thing in ODD + ((),):
            self.assertFalse(self.judged(RULED, here, (one,), row, thing))
        for thing in with_odd(end) + with_lists(end) + with_more(end):
            self.assertFalse(self.judged(RULED, here, (one,), row, thing))
        self.assertFalse(self.judged(RULED, here, (one,), row, put_at(end, (4, 0, 1), True)))
        self.assertFalse(self.judged(RULED, here, (one,), None, None))
        self.assertFalse(self.judged(RULED, here, (one,), 5, None))
        self.assertFalse(self.judged(RULED, here, (one,), ((0, (1, 2)),), None))

    def test_of_anything(self):
        rules = (rule("a | 0 g | 0 g", "a"), rule("a | 0 f | 0 f", "a"))
        here = graph("a | 0 f | 0 g | 0 g | 0 f | 0 dot")
        row = ((0, (2, 3)), (1, (1, 2)))
        end = come_to(RULED, here, rules, row)
        self.assertTrue(self.judged(RULED, here, rules, row, end))
        for thing in ODD:
            self.assertFalse(self.judged(RULED, here, rules, thing, end))
            self.assertFalse(self.judged(RULED, here, rules, thing, here))
        for thing in with_odd(row) + with_lists(row) + with_more(row) + less_and_twice(row, ()):
            self.judged(RULED, here, rules, thing, end)
        for thing in with_lists(row) + with_more(row):
            self.assertFalse(self.judged(RULED, here, rules, thing, end))
        for k in (0, 1):
            for thing in less_and_twice(row, (k,)) + less_and_twice(row, (k, 1)):
                self.assertFalse(self.judged(RULED, here, rules, thing, end))

    def test_a_rules_number_that_is_not_there(self):
        one = rule("a | 0 f | 0 f", "a")
        here = graph("a | 0 f | 0 f")
        self.assertTrue(self.judged(RULED, here, (one,), ((0, (1, 2)),), graph("a")))
        self.assertTrue(self.judged(RULED, here, (one, one), ((1, (1, 2)),), graph("a")))
        for number in (1, 2, -1, 10**39, True, False, "0", None, (0,), [0]):
            self.assertFalse(self.judged(RULED, here, (one,), ((number, (1, 2)),), graph("a")))
        self.assertFalse(self.judged(RULED, here, (one, one), ((True, (1, 2)),), graph("a")))
        self.assertFalse(self.judged(RULED, here, (one, one), ((-1, (1, 2)),), graph("a")))
        self.assertFalse(self.judged(RULED, here, (one,), ((0, (True, 2)),), graph("a")))
        self.assertFalse(self.judged(RULED, here, (), ((0, (1, 2)),), graph("a")))

    def test_long_rows(self):
        dot = rule("- | 0 dot", "-")
        here = ((), (), ("dot",) * 600, (), ())
        self.assertTrue(is_row(RULED, here, (dot,), ((0, (1,)),) * 600, graph("-")))
        self.assertFalse(is_row(RULED, here, (dot,), ((0, (1,)),) * 601, graph("-")))
        self.assertFalse(is_row(RULED, here, (dot,), ((0, (1,)),) * 599, graph("-")))

    def test_finds_anew_are_the_programs(self):
        for chance, stock, rules, here in self.samples(30, 235):
            for one in rules:
                self.assertTrue(same(finds(stock, here, one), finds_anew(here, one[0])))
