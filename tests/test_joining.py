import copy
import itertools
import random
import unittest

from samples import BENT, BRAID, LOOSE, STOCKS, chance_picture, same
from slidewires.errors import NoFind, NoFit, NoSlide, NoText, TooWide, WireError
from slidewires.graphs import graph_of
from slidewires.joining import behind, bent_down, bent_up, beside, crossed, filled
from slidewires.pictures import below_of, is_picture
from slidewires.picturetexts import read_picture, show_picture

SAMPLES = {LOOSE: "a b | 0 f | 1 new | 0 cross", BENT: "a | 1 cup b | 0 g | 2 cap", BRAID: "a b a | 0 over | 1 under"}


class Joining(unittest.TestCase):
    def told(self, asked, stock, *handed):
        before = copy.deepcopy(handed)
        told = asked(stock, *handed)
        self.assertTrue(same(asked(stock, *handed), told))
        self.assertEqual(handed, before)
        self.assertTrue(is_picture(stock, told), told)
        return told

    def refused(self, asked, stock, *handed):
        before = copy.deepcopy(handed)
        for _ in range(2):
            with self.assertRaises(NoFit) as caught:
                asked(stock, *handed)
            self.assertIsInstance(caught.exception, WireError)
            self.assertIsInstance(caught.exception, ValueError)
            self.assertNotIsInstance(caught.exception, (NoText, NoSlide, NoFind, TooWide))
        self.assertEqual(handed, before)

    def told_text(self, asked, stock, *texts):
        return show_picture(stock, self.told(asked, stock, *[read_picture(stock, text) for text in texts]))


class Behind(Joining):
    def test_in_each_manner(self):
        self.assertEqual(self.told_text(behind, LOOSE, "a b | 0 f", "a | 0 g | 1 dot"), "a b | 0 f | 0 g | 1 dot")
        self.assertEqual(self.told_text(behind, BENT, "- | 0 cup a", "a a | 0 cap"), "- | 0 cup a | 0 cap")
        self.assertEqual(self.told_text(behind, BRAID, "a b | 0 over", "b a | 0 under"), "a b | 0 over | 0 under")

    def test_without_layers(self):
        for stock, text in SAMPLES.items():
            picture = read_picture(stock, text)
            self.assertTrue(same(self.told(behind, stock, (picture[0], ()), picture), picture))
            self.assertTrue(same(self.told(behind, stock, picture, (below_of(stock, picture), ())), picture))
            self.assertTrue(same(self.told(behind, stock, ((), ()), ((), ())), ((), ())))

    def test_other_feet(self):
        for stock in STOCKS:
            rows = [row for many in range(4) for row in itertools.product(("a", "b"), repeat=many)]
            for one, other in itertools.permutations(rows, 2):
                self.refused(behind, stock, (one, ()), (other, ()))
        for stock, text in SAMPLES.items():
            picture = read_picture(stock, text)
            below = below_of(stock, picture)
            for row in (below[:-1], below + ("a",), below[:-1] + ("b" if below[-1] == "a" else "a",), ()):
                self.refused(behind, stock, picture, (row, ()))
        self.refused(behind, LOOSE, (("a", "b"), ((0, ("box", "f")),)), (("a", "b"), ((0, ("box", "f")),)))

    def test_by_chance(self):
        chance = random.Random(8)
        for stock in STOCKS:
            for _ in range(200):
                picture, below = chance_picture(stock, chance)
                at = chance.randrange(len(picture[1]) + 1)
                one = (picture[0], picture[1][:at])
                other = (below_of(stock, one), picture[1][at:])
                self.assertTrue(same(self.told(behind, stock, one, other), picture))


class Beside(Joining):
    def test_in_each_manner(self):
        self.assertEqual(
            self.told_text(beside, LOOSE, "a b | 0 f", "b a | 0 cross | 1 gone"), "a b b a | 0 f | 1 cross | 2 gone"
        )
        self.assertEqual(self.told_text(beside, BENT, "- | 0 cup a", "a a | 0 cap | 0 cup b"),
                         "a a | 0 cup a | 2 cap | 2 cup b")
        self.assertEqual(self.told_text(beside, BENT, "b b | 0 cap", "a a | 0 cap"), "b b a a | 0 cap | 0 cap")
        self.assertEqual(self.told_text(beside, BRAID, "a b | 0 over", "b a | 0 under"), "a b b a | 0 over | 2 under")
        self.assertEqual(self.told_text(beside, LOOSE, "a b | 0 f", "a | 0 dot | 1 dot"), "a b a | 0 f | 1 dot | 2 dot")

    def test_without_layers(self):
        for stock, text in SAMPLES.items():
            picture = read_picture(stock, text)
            by = len(below_of(stock, picture))
            self.assertTrue(same(self.told(beside, stock, ((), ()), picture), picture))
            self.assertTrue(same(self.told(beside, stock, picture, ((), ())), picture))
            self.assertTrue(same(self.told(beside, stock, picture, (("b",), ())), (picture[0] + ("b",), picture[1])))
            moved = tuple((place + 1, step) for place, step in picture[1])
            self.assertTrue(same(self.told(beside, stock, (("b",), ()), picture), (("b",) + picture[0], moved)))
            moved = tuple((place + by, step) for place, step in picture[1])
            self.assertTrue(same(self.told(beside, stock, picture, picture), (picture[0] * 2, picture[1] + moved)))

    def test_feet_stand_beside_feet(self):
        chance = random.Random(9)
        for stock in STOCKS:
            for _ in range(200):
                one, one_below = chance_picture(stock, chance)
                other, other_below = chance_picture(stock, chance)
                both = self.told(beside, stock, one, other)
                self.assertEqual(both[0], one[0] + other[0])
                self.assertEqual(below_of(stock, both), one_below + other_below)
                if stock != BRAID:
                    self.check_ties(graph_of(stock, one), graph_of(stock, other), graph_of(stock, both))

    def check_ties(self, one, other, both):
        right_of = {"up": len(one[0]), "down": len(one[1])}

        def moved(foot):
            number, side, i = foot
            return (number + len(one[2]), side, i) if number else (0, side, i + right_of[side])

        tied = [tuple(sorted(map(moved, tie))) for tie in other[3]]
        self.assertEqual(both[2:4], (one[2] + other[2], tuple(sorted(list(one[3]) + tied))))


class Crossed(Joining):
    def test_each_wire_leads_to_its_own_place(self):
        rows = [(), ("a",), ("b",), ("a", "b"), ("a", "a", "b"), ("b", "b", "b", "a")]
        for stock in (LOOSE, BENT):
            for ones, others in itertools.product(rows, rows):
                told = self.told(crossed, stock, ones, others)
                self.assertTrue(same(told[0], ones + others))
                self.assertEqual({step for place, step in told[1]}, {("cross",)} if ones and others else set())
                self.assertEqual(below_of(stock, told), others + ones)
                wires = list(range(len(told[0])))
                for place, step in told[1]:
                    wires[place], wires[place + 1] = wires[place + 1], wires[place]
                stay = len(ones)
                self.assertEqual(wires, list(range(stay, stay + len(others))) + list(range(stay)))

    def test_in_braids(self):
        for ones, others in (((), ()), (("a",), ()), (("a",), ("b",)), (("a", "b"), ("a",))):
            self.refused(crossed, BRAID, ones, others)


class Bent(Joining):
    def test_up(self):
        self.assertEqual(self.told_text(bent_up, BENT, "a"), "a a | 0 cap")
        self.assertEqual(self.told_text(bent_up, BENT, "b a b"), "b a b b | 2 cap")
        self.assertEqual(self.told_text(bent_up, BENT, "a | 0 g"), "a a | 0 g | 1 cap")
        self.assertEqual(self.told_text(bent_up, BENT, "- | 0 new | 1 dot"), "a | 0 new | 1 dot | 0 cap")
        self.assertEqual(self.told_text(bent_up, BENT, "a b | 0 cross"), "a b a | 0 cross | 1 cap")

    def test_down(self):
        self.assertEqual(self.told_text(bent_down, BENT, "a"), "- | 0 cup a")
        self.assertEqual(self.told_text(bent_down, BENT, "b a b"), "b a | 2 cup b")
        self.assertEqual(self.told_text(bent_down, BENT, "a b | 0 f | 1 dot"), "a | 1 cup b | 0 f | 1 dot")
        self.assertEqual(self.told_text(bent_down, BENT, "b | 0 gone | 0 new"), "- | 0 cup b | 0 gone | 0 new")

    def test_what_is_tied_stays_tied(self):
        chance = random.Random(10)
        for _ in range(300):
            picture, below = chance_picture(BENT, chance)
            above = picture[0]
            graph = graph_of(BENT, picture)
            if below:
                self.check_bend(bent_up, picture, graph, (0, "down", len(below) - 1), (0, "up", len(above)))
            if above:
                self.check_bend(bent_down, picture, graph, (0, "up", len(above) - 1), (0, "down", len(below)))

    def check_bend(self, asked, picture, graph, foot, then):
        bent = graph_of(BENT, self.told(asked, BENT, picture))
        ties = [tuple(sorted(then if end == foot else end for end in tie)) for tie in graph[3]]
        self.assertEqual(bent[2:], (graph[2], tuple(sorted(ties)), graph[4]))

    def test_no_foot(self):
        for text in ("-", "- | 0 dot", "b | 0 gone", "a a | 0 cap"):
            self.refused(bent_up, BENT, read_picture(BENT, text))
        for text in ("-", "- | 0 dot", "- | 0 new", "- | 0 cup a"):
            self.refused(bent_down, BENT, read_picture(BENT, text))

    def test_other_manners(self):
        for stock in (LOOSE, BRAID):
            for picture in (((), ()), (("a",), ()), read_picture(stock, SAMPLES[stock])):
                self.refused(bent_up, stock, picture)
                self.refused(bent_down, stock, picture)


class Filled(Joining):
    def filled_text(self, stock, text, name, inner):
        told = self.told(filled, stock, read_picture(stock, text), name, read_picture(stock, inner))
        return show_picture(stock, told)

    def test_once_and_several_times_and_at_other_places(self):
        for stock in (LOOSE, BENT):
            self.assertEqual(self.filled_text(stock, "a b | 0 f", "f", "a b | 1 gone"), "a b | 1 gone")
            self.assertEqual(
                self.filled_text(stock, "b a b a | 1 f | 0 cross", "f", "a b | 0 cross | 0 gone | 1 dot"),
                "b a b a | 1 cross | 1 gone | 2 dot | 0 cross",
            )
            self.assertEqual(
                self.filled_text(stock, "a a a | 0 same | 1 cross | 1 same", "same", "a a | 0 cross | 0 g | 0 gone"),
                "a a a | 0 cross | 0 g | 0 gone | 1 cross | 1 cross | 1 g | 1 gone",
            )
            self.assertEqual(self.filled_text(stock, "a | 1 new | 0 new", "new", "- | 0 dot | 0 new"),
                             "a | 1 dot | 1 new | 0 dot | 0 new")
        self.assertEqual(self.filled_text(BENT, "b | 1 new", "new", "- | 0 cup a | 0 g | 0 gone | 0 cap | 0 new"),
                         "b | 1 cup a | 1 g | 1 gone | 1 cap | 1 new")

    def test_nowhere(self):
        for stock in (LOOSE, BENT):
            for text in ("-", "a", "a b | 0 f", "a b | 0 cross | 1 dot"):
                self.assertEqual(self.filled_text(stock, text, "same", "a a | 0 cross"), text)

    def test_a_box_so_called_within_stays(self):
        self.assertEqual(self.filled_text(LOOSE, "a a | 0 same", "same", "a a | 0 same | 0 same"),
                         "a a | 0 same | 0 same")
        self.assertEqual(self.filled_text(LOOSE, "a b b | 0 f | 0 f", "f", "a b | 0 f | 0 g | 0 gone"),
                         "a b b | 0 f | 0 g | 0 gone | 0 f | 0 g | 0 gone")

    def test_without_layers(self):
        self.assertEqual(self.filled_text(LOOSE, "b a a | 1 same | 1 cross | 1 same", "same", "a a"), "b a a | 1 cross")
        self.assertEqual(self.filled_text(BENT, "a | 1 dot | 0 dot", "dot", "-"), "a")

    def test_no_such_box(self):
        for stock, text in SAMPLES.items():
            picture = read_picture(stock, text)
            for name in ("zz", "a", "cross", "over"):
                self.refused(filled, stock, picture, name, ((), ()))
                self.refused(filled, stock, ((), ()), name, picture)
        self.refused(filled, BRAID, read_picture(BRAID, "a b"), "f", read_picture(BRAID, "a b"))

    def test_other_feet(self):
        for stock in (LOOSE, BENT):
            for text in ("a b | 0 f", "a b", "-", "a | 0 g"):
                picture = read_picture(stock, text)
                for inner in ("a b", "b a | 0 cross | 0 f", "a", "a b a | 0 f", "a b | 0 f | 0 g", "-", "- | 0 new",
                              "a b | 1 gone | 0 new", "a b b | 1 gone | 1 gone"):
                    self.refused(filled, stock, picture, "f", read_picture(stock, inner))

    def test_the_feet_stay(self):
        chance = random.Random(11)
        inners = {"f": "a b | 0 f | 0 g | 0 gone", "g": "a | 0 g | 0 cross | 0 cross",
                  "new": "- | 0 new | 0 g | 0 gone", "gone": "b | 0 gone | 0 dot", "dot": "-",
                  "same": "a a | 0 same | 0 cross"}
        for stock in (LOOSE, BENT):
            for _ in range(200):
                picture, below = chance_picture(stock, chance)
                for name, text in inners.items():
                    inner = read_picture(stock, text)
                    told = self.told(filled, stock, picture, name, inner)
                    self.assertEqual((told[0], below_of(stock, told)), (picture[0], below))
                    bears = [step for place, step in picture[1]].count(("box", name))
                    self.assertEqual(len(told[1]), len(picture[1]) + bears * (len(inner[1]) - 1))
