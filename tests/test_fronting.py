import copy
import random
import unittest

from samples import BENT, LOOSE, chance_picture, same
from slidewires.checker import has_fewest, turns_in, walks
from slidewires.fronting import fronted
from slidewires.graphs import graph_of
from slidewires.pictures import boxes_of, is_picture
from slidewires.picturetexts import read_picture


class Fronted(unittest.TestCase):
    def check(self, stock, picture):
        before = copy.deepcopy(picture)
        told = fronted(stock, picture)
        self.assertTrue(same(fronted(stock, picture), told))
        self.assertTrue(same(picture, before))
        self.assertEqual((type(told), len(told), type(told[1])), (tuple, 2, tuple))
        front, paper = told
        self.assertIs(is_picture(stock, front), True)
        self.assertIs(walks(stock, picture, front, paper), True)
        self.assertIs(has_fewest(stock, picture, front, paper), True)
        self.assertEqual(turns_in(stock, picture, paper), 0)
        self.assertEqual(boxes_of(front), boxes_of(picture))
        self.assertEqual([place for place, step in front[1] if step[0] == "box"], [0] * len(boxes_of(picture)))
        self.assertTrue(same(graph_of(stock, front), graph_of(stock, picture)))
        return front

    def texts(self, stock, *several):
        for text in several:
            self.check(stock, read_picture(stock, text))

    def test_without_boxes(self):
        self.texts(LOOSE, "-", "a b", "a b | 0 cross", "a a a | 1 cross | 0 cross | 1 cross")
        self.texts(BENT, "- | 0 cup a | 0 cap", "a | 1 cup a | 0 cap", "a a a | 1 cap")

    def test_boxes_without_feet(self):
        self.texts(LOOSE, "- | 0 dot", "a b | 2 dot", "a b | 1 dot | 0 dot | 2 dot | 0 cross | 1 dot")

    def test_boxes_at_the_right_end(self):
        self.texts(LOOSE, "b b b | 3 new", "b b b | 2 gone", "b b a b | 2 f", "b b a | 2 g", "b a a | 1 same",
                   "a a a a a a a a | 6 same | 5 same | 4 same", "b a b | 1 f | 1 g | 1 gone | 2 new | 1 same")

    def test_boxes_that_stand_there(self):
        for text in ("a b | 0 f | 0 g", "a | 0 dot", "- | 0 new | 0 new"):
            picture = read_picture(LOOSE, text)
            self.assertTrue(same(self.check(LOOSE, picture), picture))

    def test_wires_about_the_boxes(self):
        self.texts(BENT, "a | 1 cup a | 1 same | 1 cap", "b b | 1 cup a | 1 g | 2 cap | 1 gone",
                   "a | 1 new | 0 cup b | 2 cross")

    def test_by_chance(self):
        chance = random.Random(101)
        for stock in (LOOSE, BENT):
            for _ in range(150):
                self.check(stock, chance_picture(stock, chance)[0])

    def test_up_to_eight_boxes_and_forty_five_layers(self):
        chance = random.Random(102)
        greatest = 0
        for stock in (LOOSE, BENT):
            done = 0
            while done < 25:
                picture = chance_picture(stock, chance, most_layers=45)[0]
                boxes = len(boxes_of(picture))
                if 5 <= boxes <= 8:
                    self.check(stock, picture)
                    done += 1
                    greatest = max(greatest, boxes)
        self.assertEqual(greatest, 8)
        layers = tuple((place, step) for k in range(8) for place,
                       step in ((6 - k % 3, ("box", "same")), (k % 7, ("cross",))))
        self.check(LOOSE, (("a",) * 8, layers + ((0, ("cross",)),) * 29))
