import copy
import itertools
import random
import unittest

from oracles import chance_place, chance_rule, done_anew, down, finds_anew, is_find_anew, numbered_otherwise, ties, up
from samples import BENT, ODD, RULED, less_and_twice, same, with_lists, with_more, with_odd
from slidewires.errors import NoFind, NoFit, NoSlide, NoText, TooWide, WireError
from slidewires.finds import done, finds
from slidewires.graphs import graph_of, is_graph
from slidewires.picturetexts import read_picture
from slidewires.rules import is_rule


def graph(text, stock=RULED):
    return graph_of(stock, read_picture(stock, text))


def rule(left, right):
    return (graph(left), graph(right))


class Done(unittest.TestCase):
    def found(self, stock, here, one, expected):
        before = copy.deepcopy((here, one))
        for _ in range(2):
            self.assertTrue(same(finds(stock, here, one), expected), (here, one, finds(stock, here, one)))
        self.assertTrue(same((here, one), before))

    def refused(self, stock, here, one, find):
        before = copy.deepcopy((here, one, find))
        for _ in range(2):
            with self.assertRaises(NoFind, msg=find) as caught:
                done(stock, here, one, find)
            self.assertIsInstance(caught.exception, WireError)
            self.assertNotIsInstance(caught.exception, (NoText, NoFit, NoSlide, TooWide))
        self.assertTrue(same((here, one, find), before))

    def told(self, stock, here, one, find, expected):
        before = copy.deepcopy((here, one, find))
        for _ in range(2):
            told = done(stock, here, one, find)
            self.assertTrue(same(told, expected), (here, one, find, told, expected))
        self.assertIs(is_graph(stock, told), True)
        self.assertTrue(same((here, one, find), before))

    def judged(self, stock, here, one, find):
        if is_find_anew(here, one[0], find):
            self.told(stock, here, one, find, done_anew(stock, here, one, find))
            return True
        self.refused(stock, here, one, find)
        return False


class Finds(Done):
    def test_none(self):
        one = rule("a | 0 f | 0 g", "a")
        for text in ("-", "a", "a | 0 f", "a | 0 g", "a | 0 g | 0 f", "a a | 0 f | 1 g", "a | 0 f | 0 f", "- | 0 dot"):
            self.found(RULED, graph(text), one, ())
        self.found(RULED, graph("a | 0 f | 0 cup a | 1 g | 0 cap"), one, ())

    def test_several(self):
        one = rule("a | 0 f | 0 f", "a")
        self.found(RULED, graph("a | 0 f | 0 f"), one, ((1, 2),))
        self.found(RULED, graph("a | 0 f | 0 f | 0 f"), one, ((1, 2), (2, 3)))
        self.found(RULED, graph("a a | 0 f | 1 f | 0 f | 1 f"), one, ((1, 3), (2, 4)))
        self.found(RULED, numbered_otherwise(graph("a | 0 f | 0 f | 0 f"), (2, 3, 1)), one, ((1, 2), (3, 1)))
        self.found(RULED, graph("- | 0 dot | 0 dot | 0 dot"), rule("- | 0 dot", "-"), ((1,), (2,), (3,)))

    def test_a_ring_of_boxes(self):
        one = rule("a | 0 f | 0 f", "a")
        self.found(RULED, graph("- | 0 cup a | 0 f | 0 f | 0 cap"), one, ((1, 2), (2, 1)))
        self.found(RULED, graph("- | 0 cup a | 0 f | 0 f | 0 f | 0 cap"), one, ((1, 2), (2, 3), (3, 1)))
        self.found(RULED, graph("- | 0 cup a | 0 f | 0 cap"), one, ())

    def test_one_box_with_itself(self):
        loop = rule("- | 0 cup a | 0 f | 0 cap", "-")
        self.found(RULED, graph("- | 0 cup a | 0 f | 0 cap"), loop, ((1,),))
        self.found(RULED, graph("a | 0 f"), loop, ())
        self.found(RULED, graph("- | 0 cup a | 0 f | 0 f | 0 cap"), loop, ())
        self.found(RULED, graph("a | 0 f | 0 cup a | 0 f | 0 cap"), loop, ((2,),))
        self.found(RULED, graph("- | 0 cup a | 0 f | 0 cap | 0 cup a | 0 f | 0 cap"), loop, ((1,), (2,)))
        alone = rule("a | 0 f", "a")
        self.found(RULED, graph("- | 0 cup a | 0 f | 0 cap"), alone, ((1,),))

    def test_a_tie_of_two_feet_of_one_box(self):
        looped = (("b",), ("b",), ("x",), ties((up(1, 0), down(1, 1)), (up(0, 0), up(1, 1)), (down(0, 0), down(1, 0))), ())
        one = (looped, graph("b"))
        self.assertTrue(is_rule(RULED, one))
        self.found(RULED, looped, one, ((1,),))
        self.told(RULED, looped, one, (1,), graph("b"))
        self.found(RULED, graph("a b | 0 x"), one, ())
        closed = ((), (), ("x",), ties((up(1, 0), down(1, 1)), (up(1, 1), down(1, 0))), ())
        self.found(RULED, closed, one, ((1,),))
        self.told(RULED, closed, one, (1,), graph("- | 0 cup b | 0 cap"))
        one = (graph("- | 0 cup a | 0 m | 0 f"), graph("- | 0 u"))
        self.assertTrue(is_rule(RULED, one))
        self.found(RULED, graph("- | 0 cup a | 0 m | 0 f"), one, ((1, 2),))
        self.found(RULED, graph("a a | 0 m | 0 f"), one, ())
        self.found(RULED, graph("- | 0 cup a | 0 cross | 0 m | 0 f"), one, ((1, 2),))
        self.found(RULED, graph("- | 0 u | 0 u | 0 m | 0 f"), one, ())

    def test_boxes_alike_several_tuples_at_one_place(self):
        # Two boxes tied foot above to foot above: either may be the first.
        left = ((), ("a", "a"), ("f", "f"), ties(
            (up(1, 0), up(2, 0)), (down(0, 0), down(1, 0)), (down(0, 1), down(2, 0))), ())
        one = (left, graph("- | 0 cup a"))
        self.assertTrue(is_rule(RULED, one))
        self.found(RULED, left, one, ((1, 2), (2, 1)))
        self.found(RULED, graph("- | 0 cup a | 0 f | 1 f | 0 m"), one, ((1, 2), (2, 1)))
        self.found(RULED, graph("a | 0 f | 0 f"), one, ())
        three = rule("- | 0 cup a | 0 f | 0 f | 0 f | 0 cap", "-")
        self.found(RULED, three[0], three, ((1, 2, 3), (2, 3, 1), (3, 1, 2)))

    def test_feet_are_told_apart(self):
        straight = rule("a | 0 w | 0 m", "a")
        crossing = rule("a | 0 w | 0 cross | 0 m", "a")
        self.found(RULED, graph("a | 0 w | 0 m"), straight, ((1, 2),))
        self.found(RULED, graph("a | 0 w | 0 m"), crossing, ())
        self.found(RULED, graph("a | 0 w | 0 cross | 0 m"), straight, ())
        self.found(RULED, graph("a | 0 w | 0 cross | 0 m"), crossing, ((1, 2),))
        one = rule("a a | 0 w | 1 m", "a a")
        self.found(RULED, graph("a | 0 w | 0 m"), one, ())
        self.found(RULED, graph("a a | 0 w | 1 m"), one, ((1, 2),))
        half = (graph("a | 0 w | 1 e"), graph("a"))
        self.found(RULED, graph("a | 0 w | 0 e"), half, ())
        self.found(RULED, graph("a | 0 w | 1 e"), half, ((1, 2),))

    def test_by_chance(self):
        chance = random.Random(221)
        many = {}
        for stock in (RULED, BENT):
            for _ in range(300):
                one = chance_rule(stock, chance)
                here = chance_place(stock, chance, [one[0]] * chance.randrange(4), 3)
                expected = finds_anew(here, one[0])
                many[len(expected)] = many.get(len(expected), 0) + 1
                self.found(stock, here, one, expected)
        self.assertGreater(min(many.get(k, 0) for k in range(4)), 30)


class Right(Done):
    def texts(self, here, left, right, find, expected):
        self.told(RULED, graph(here), rule(left, right), find, graph(expected))

    def test_wires_for_boxes(self):
        self.texts("a | 0 f | 0 f", "a | 0 f | 0 f", "a", (1, 2), "a")
        self.texts("a | 0 f | 0 f | 0 f", "a | 0 f | 0 f", "a", (1, 2), "a | 0 f")
        self.texts("a | 0 f | 0 f | 0 f", "a | 0 f | 0 f", "a", (2, 3), "a | 0 f")
        self.texts("a | 0 g | 0 f | 0 f | 0 g", "a | 0 f | 0 f", "a", (2, 3), "a | 0 g | 0 g")
        self.texts("a | 0 f | 0 f", "a | 0 f", "a", (1,), "a | 0 f")
        self.texts("- | 0 dot", "- | 0 dot", "-", (1,), "-")

    def test_the_others_come_first_in_their_order(self):
        here = graph("a a | 0 f | 1 g | 0 f | 1 w")
        told = done(RULED, here, rule("a | 0 f | 0 f", "a | 0 g"), (1, 3))
        self.assertEqual(told[2], ("g", "w", "g"))
        self.assertEqual(told, (("a", "a"), ("a", "a", "a"), ("g", "w", "g"), ties(
            (up(0, 0), up(3, 0)), (down(3, 0), down(0, 0)), (up(0, 1), up(1, 0)), (down(1, 0), up(2, 0)),
            (down(2, 0), down(0, 1)), (down(2, 1), down(0, 2))), ()))
        three = rule("a | 0 f | 0 f | 0 f", "a | 0 g | 0 dot")
        told = done(RULED, graph("a | 0 u | 1 f | 1 f | 1 f | 0 m | 0 e"), three, (2, 3, 4))
        self.assertEqual(told[2], ("u", "m", "e", "g", "dot"))

    def test_rings_of_right(self):
        self.texts("a | 0 f", "a | 0 f", "a | 0 cup b | 0 cap", (1,), "a | 0 cup b | 0 cap")
        self.texts("a | 0 f | 0 cup b | 0 cap", "a | 0 f", "a | 0 cup b | 0 cap | 0 cup b | 0 cap", (1,),
                   "a" + " | 0 cup b | 0 cap" * 3)
        self.texts("a | 0 f | 0 cup b | 0 cap", "a | 0 f", "a | 0 cup a | 0 cap", (1,),
                   "a | 0 cup a | 0 cap | 0 cup b | 0 cap")
        told = done(RULED, graph("a | 0 f | 0 cup b | 0 cap"), rule("a | 0 f", "a | 0 cup a | 0 cap"), (1,))
        self.assertEqual(told[4], (("a", 1), ("b", 1)))

    def test_ties_of_two_own_feet_of_right(self):
        """Above to below, above to above, below to below."""
        self.texts("a a | 0 m | 0 w", "a a | 0 m | 0 w", "a a", (1, 2), "a a")
        self.texts("a a | 0 m | 0 w", "a a | 0 m | 0 w", "a a | 0 cross", (1, 2), "a a | 0 cross")
        self.texts("a a | 0 m | 0 w", "a a | 0 m | 0 w", "a a | 0 cap | 0 cup a", (1, 2), "a a | 0 cap | 0 cup a")
        self.texts("a a | 0 f | 1 g | 0 m | 0 w | 1 g", "a a | 0 m | 0 w", "a a | 0 cap | 0 cup a", (3, 4),
                   "a a | 0 f | 1 g | 0 cap | 0 cup a | 1 g")

    def test_a_wire_that_comes_into_itself(self):
        self.texts("- | 0 cup a | 0 f | 0 cap", "a | 0 f", "a", (1,), "- | 0 cup a | 0 cap")
        self.texts("- | 0 cup a | 0 f | 0 f | 0 cap", "a | 0 f | 0 f", "a", (1, 2), "- | 0 cup a | 0 cap")
        self.texts("- | 0 cup a | 0 f | 0 f | 0 cap", "a | 0 f | 0 f", "a", (2, 1), "- | 0 cup a | 0 cap")
        self.texts("- | 0 cup a | 0 f | 0 cap", "a | 0 f", "a | 0 cup a | 0 cap", (1,), "-" + " | 0 cup a | 0 cap" * 2)
        swap = rule("a b | 0 x", "a b | 0 cross")
        here = ((), (), ("x",), ties((up(1, 0), down(1, 1)), (up(1, 1), down(1, 0))), ())
        self.told(RULED, here, swap, (1,), ((), (), (), (), (("a", 1), ("b", 1))))
        here = ((), (), ("x",), ties((up(1, 0), down(1, 1)), (up(1, 1), down(1, 0))), (("b", 3),))
        self.told(RULED, here, swap, (1,), ((), (), (), (), (("a", 1), ("b", 4))))

    def test_on_and_on_through_left_and_right(self):
        """Two wires of right are put one behind another by a tie of the found box's own feet."""
        cross = rule("a a | 0 m | 0 w", "a a | 0 cross")
        here = (("a",), ("a",), ("m", "w"), ties(
            (up(0, 0), up(1, 0)), (down(1, 0), up(2, 0)), (up(1, 1), down(2, 0)), (down(2, 1), down(0, 0))), ())
        # In by the first foot above, out by the second below: the other wire is a ring.
        self.told(RULED, here, cross, (1, 2), (("a",), ("a",), (), ties((up(0, 0), down(0, 0))), (("a", 1),)))
        here = (("a",), ("a",), ("m", "w"), ties(
            (up(0, 0), up(1, 0)), (down(1, 0), up(2, 0)), (up(1, 1), down(2, 1)), (down(2, 0), down(0, 0))), ())
        # In by the first, out by the second below, back by the second above, out by the first below.
        self.told(RULED, here, cross, (1, 2), (("a",), ("a",), (), ties((up(0, 0), down(0, 0))), ()))
        bends = rule("a a | 0 m | 0 w", "a a | 0 cap | 0 cup a")
        self.told(RULED, here, bends, (1, 2), (("a",), ("a",), (), ties((up(0, 0), down(0, 0))), ()))
        closed = ((), (), ("m", "w"), ties(
            (down(1, 0), up(2, 0)), (up(1, 0), up(1, 1)), (down(2, 0), down(2, 1))), ())
        self.told(RULED, closed, bends, (1, 2), ((), (), (), (), (("a", 2),)))
        self.told(RULED, closed, cross, (1, 2), ((), (), (), (), (("a", 1),)))
        self.told(RULED, closed, rule("a a | 0 m | 0 w", "a a"), (1, 2), ((), (), (), (), (("a", 1),)))

    def test_boxes_of_right_tied_by_wires_without(self):
        one = rule("a | 0 f | 0 f", "a | 0 g")
        self.texts("- | 0 cup a | 0 f | 0 f | 0 cap", "a | 0 f | 0 f", "a | 0 g", (1, 2), "- | 0 cup a | 0 g | 0 cap")
        self.told(RULED, graph("- | 0 cup a | 0 f | 0 f | 0 cap"), one, (2, 1), graph("- | 0 cup a | 0 g | 0 cap"))

    def test_by_chance(self):
        chance = random.Random(222)
        rings = many = 0
        for stock in (RULED, BENT):
            for _ in range(300):
                one = chance_rule(stock, chance)
                here = chance_place(stock, chance, [one[0]] * chance.randrange(1, 4), 3)
                for find in finds_anew(here, one[0]):
                    self.assertTrue(self.judged(stock, here, one, find))
                    many += 1
                    told = done(stock, here, one, find)
                    rings += sum(dict(told[4]).values()) > sum(dict(here[4]).values()) + sum(dict(one[1][4]).values())
        self.assertGreater(many, 600)
        self.assertGreater(rings, 50)

    def test_tuples_by_chance(self):
        chance = random.Random(223)
        told = {True: 0, False: 0}
        for _ in range(100):
            one = chance_rule(RULED, chance)
            here = chance_place(RULED, chance, [one[0]], 2)
            for find in itertools.permutations(range(0, len(here[2]) + 2), len(one[0][2])):
                told[self.judged(RULED, here, one, find)] += 1
        self.assertGreater(min(told.values()), 80)


class Anything(Done):
    """NoFind and nothing else, of anything."""

    def samples(self):
        yield graph("a | 0 g | 0 f | 0 g | 0 f"), rule("a | 0 f | 0 g", "a"), (2, 3)
        yield graph("- | 0 dot | 0 dot"), rule("- | 0 dot", "-"), (2,)
        yield graph("- | 0 cup a | 0 f | 0 f | 0 f | 0 cap"), rule("a | 0 f | 0 f | 0 f", "a | 0 g"), (3, 1, 2)

    def test_odd_things(self):
        for here, one, find in self.samples():
            self.assertTrue(self.judged(RULED, here, one, find))
            for thing in ODD + ((),):
                self.refused(RULED, here, one, thing)
            for thing in with_odd(find):
                self.judged(RULED, here, one, thing)

    def test_no_tuple(self):
        for here, one, find in self.samples():
            for thing in with_lists(find) + [find[0], str(find), {}, dict.fromkeys(find), None, (find,), (list(find),)]:
                self.refused(RULED, here, one, thing)

    def test_another_length(self):
        for here, one, find in self.samples():
            for thing in with_more(find) + less_and_twice(find, ()) + [find + find, find + (1,), (1,) + find]:
                self.refused(RULED, here, one, thing)

    def test_numbers_that_are_not_there(self):
        for here, one, find in self.samples():
            many = len(here[2])
            for k in range(len(find)):
                for number in (0, -1, -many, find[k] - many, find[k] - many - 1, many + 1, 10**39, -(10**39)):
                    self.refused(RULED, here, one, find[:k] + (number,) + find[k + 1:])

    def test_truths(self):
        self.refused(RULED, graph("- | 0 dot"), rule("- | 0 dot", "-"), (True,))
        self.refused(RULED, graph("a | 0 f | 0 g"), rule("a | 0 f | 0 g", "a"), (True, 2))
        for here, one, find in self.samples():
            for k in range(len(find)):
                for thing in (True, False, str(find[k]), None, (find[k],)):
                    self.refused(RULED, here, one, find[:k] + (thing,) + find[k + 1:])

    def test_a_number_twice(self):
        ring = rule("- | 0 cup a | 0 f | 0 f | 0 cap", "-")
        self.refused(RULED, graph("- | 0 cup a | 0 f | 0 cap"), ring, (1, 1))
        self.refused(RULED, graph("a | 0 f | 0 f"), rule("a | 0 f | 0 f", "a"), (1, 1))
        chain = rule("a | 0 f | 0 f", "a")
        self.refused(RULED, graph("- | 0 cup a | 0 f | 0 cap"), chain, (1, 1))

    def test_another_name_or_tie(self):
        one = rule("a | 0 f | 0 g", "a")
        self.refused(RULED, graph("a | 0 f | 0 f"), one, (1, 2))
        self.refused(RULED, graph("a | 0 g | 0 f"), one, (1, 2))
        self.refused(RULED, graph("a | 0 g | 0 f"), one, (2, 1))
        self.refused(RULED, graph("a | 0 f | 0 e | 0 u | 0 g"), one, (1, 4))
        self.refused(RULED, graph("a a | 0 f | 1 g"), one, (1, 2))
        self.refused(RULED, graph("a | 0 f | 0 f | 0 g"), one, (1, 3))
        self.refused(RULED, graph("a | 0 w | 0 cross | 0 m"), rule("a | 0 w | 0 m", "a"), (1, 2))
        self.refused(RULED, graph("a a | 0 w | 2 w | 0 m | 1 m"), rule("a | 0 w | 0 m", "a"), (1, 4))

    def test_a_graph_without_boxes(self):
        for find in ((), (0,), (1,), (1, 2)):
            self.refused(RULED, graph("a"), rule("a | 0 f", "a"), find)


class Great(Done):
    def test_twelve_boxes(self):
        here = graph("a" + " | 0 f" * 12)
        one = rule("a | 0 f | 0 f | 0 f", "a | 0 g")
        self.found(RULED, here, one, tuple((k, k + 1, k + 2) for k in range(1, 11)))
        for k in range(1, 11):
            self.judged(RULED, here, one, (k, k + 1, k + 2))

    def test_far_more_boxes_and_feet(self):
        here = graph("a a" + " | 0 f | 1 g" * 60)
        one = rule("a | 0 f | 0 f", "a")
        self.assertEqual(len(finds(RULED, here, one)), 59)
        self.judged(RULED, here, one, finds(RULED, here, one)[30])
