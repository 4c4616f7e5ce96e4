import copy
import itertools
import random
import unittest

from oracles import chance_graph, gives, numbered_otherwise
from samples import BENT, LOOSE, chance_picture, same
from slidewires.checker import has_fewest, turns_in, walks
from slidewires.drawing import drawn
from slidewires.errors import NoFind, NoFit, NoSlide, NoText, TooWide, WireError
from slidewires.fronting import fronted
from slidewires.graphs import graph_of
from slidewires.pictures import boxes_of, is_picture
from slidewires.picturetexts import read_picture
from slidewires.swapping import swapped


class Swapped(unittest.TestCase):
    def check(self, stock, picture, k):
        before = copy.deepcopy(picture)
        told = swapped(stock, picture, k)
        self.assertTrue(same(swapped(stock, picture, k), told))
        self.assertTrue(same(picture, before))
        self.assertEqual((type(told), len(told), type(told[1])), (tuple, 2, tuple))
        then, paper = told
        self.assertIs(is_picture(stock, then), True)
        self.assertIs(walks(stock, picture, then, paper), True)
        self.assertEqual(turns_in(stock, picture, paper), 1)
        boxes = boxes_of(picture)
        self.assertEqual(boxes_of(then), boxes[:k - 1] + (boxes[k], boxes[k - 1]) + boxes[k + 1:])
        self.assertEqual([place for place, step in then[1] if step[0] == "box"], [0] * len(boxes))
        order = list(range(1, len(boxes) + 1))
        order[k - 1:k + 1] = [k + 1, k]
        self.assertTrue(same(graph_of(stock, then), numbered_otherwise(graph_of(stock, picture), order)))
        if stock[0] == "loose":
            self.assertNotIn("'cup'", repr(told))
            self.assertNotIn("'cap'", repr(told))
        return then

    def there_and_back(self, stock, picture, k):
        then = self.check(stock, picture, k)
        back = self.check(stock, then, k)
        self.assertTrue(same(graph_of(stock, back), graph_of(stock, picture)))

    def refused(self, stock, picture, k):
        before = copy.deepcopy(picture)
        for _ in range(2):
            with self.assertRaises(NoFit) as caught:
                swapped(stock, picture, k)
            self.assertIsInstance(caught.exception, WireError)
            self.assertNotIsInstance(caught.exception, (NoText, NoSlide, NoFind, TooWide))
        self.assertTrue(same(picture, before))

    def all_of_it(self, stock, picture):
        many = len(boxes_of(picture))
        tied = {(giver[0], taker[0]) for giver, taker in
                [tie if gives(tie[0]) else tie[::-1] for tie in graph_of(stock, picture)[3]]}
        fitting = 0
        for k in range(1, many):
            if stock[0] == "loose" and (k, k + 1) in tied:
                self.refused(stock, picture, k)
            else:
                self.there_and_back(stock, picture, k)
                fitting += 1
        return fitting

    def texts(self, stock, *several):
        for text in several:
            self.all_of_it(stock, read_picture(stock, text))

    def test_boxes_with_and_without_feet(self):
        for stock in (LOOSE, BENT):
            self.texts(stock, "- | 0 dot | 0 dot", "- | 0 dot | 0 new", "- | 0 new | 0 new", "b b | 0 gone | 0 gone",
                       "b | 0 gone | 0 new", "b a | 0 gone | 0 g", "- | 0 new | 0 dot | 0 g | 0 gone | 0 dot",
                       "a b a | 0 f | 0 cross | 0 g",
                       "a a a a | 0 same | 1 cross | 0 cross | 2 cross | 1 cross | 0 same",
                       "a b a b | 0 f | 0 cross | 1 cross | 0 f", "a | 0 dot | 0 g | 0 dot")

    def test_each_two_boxes(self):
        for first, second in itertools.product(BENT[2], repeat=2):
            row = second[1] + first[1]
            # The first box's wires are brought to the front, then those of the second one.
            bring = [(place, ("cross",)) for k in range(len(first[1]))
                     for place in range(len(second[1]) + k - 1, k - 1, -1)]
            back = [(place, ("cross",)) for k in range(len(second[1]))
                    for place in range(len(first[2]) + k - 1, k - 1, -1)]
            layers = bring + [(0, ("box", first[0]))] + back + [(0, ("box", second[0]))]
            picture = (row, tuple(layers))
            for stock in (LOOSE, BENT):
                self.assertTrue(is_picture(stock, picture))
                self.assertEqual(self.all_of_it(stock, picture), 1)

    def test_wires_led_from_the_one_to_the_other(self):
        self.texts(BENT, "a | 0 g | 0 gone", "- | 0 new | 0 g", "a b | 0 f | 0 g", "a a | 0 same | 0 same",
                   "a a | 0 same | 0 cross | 0 same", "- | 0 cup a | 0 same | 0 same | 0 cap",
                   "- | 0 cup a | 1 cup a | 1 cross | 0 same | 2 cross | 1 cross | 0 same | 0 cap | 0 cap",
                   "- | 0 new | 0 new | 0 cap", "- | 0 cup b | 0 gone | 0 gone",
                   "a | 0 g | 0 cross | 0 g | 1 cup b | 0 cap",
                   "- | 0 cup a | 0 g | 0 gone | 0 cap", "a b | 0 f | 0 cup a | 0 same",
                   "- | 0 new | 0 cup a | 1 cap | 0 g",
                   "- | 0 new | 0 cup a | 0 cap | 0 cup b | 0 gone", "a b | 0 f | 1 cup a | 0 cap | 0 g")

    def test_rings_between_them(self):
        self.texts(BENT, "- | 0 dot | 0 cup a | 0 cap | 0 dot", "a | 0 g | 0 cup b | 0 cap | 0 gone",
                   "- | 0 new | 0 cup a | 0 cross | 0 cap | 0 new")

    def test_no_two_such_boxes(self):
        for stock in (LOOSE, BENT):
            for text in ("-", "a b | 0 cross", "- | 0 dot", "- | 0 dot | 0 dot", "a b | 0 f | 0 dot | 0 dot"):
                picture = read_picture(stock, text)
                many = len(boxes_of(picture))
                for k in (0, -1, -2, many, many + 1, 100, -(10**9), 10**9):
                    if not 1 <= k < many:
                        self.refused(stock, picture, k)

    def test_a_giver_of_the_first_leads_to_the_second(self):
        for text, k in (("- | 0 new | 0 g", 1), ("a | 0 g | 0 gone", 1), ("- | 0 dot | 0 new | 0 g | 0 dot", 2),
                        ("a b | 0 f | 0 new | 0 cross | 0 g | 0 gone", 3), ("a a a | 0 same | 1 cross | 0 same", 1)):
            self.refused(LOOSE, read_picture(LOOSE, text), k)
            self.there_and_back(BENT, read_picture(BENT, text), k)
        # A box further on may take of the first: that is no hindrance.
        self.there_and_back(LOOSE, read_picture(LOOSE, "- | 0 new | 0 dot | 0 g"), 1)
        self.there_and_back(LOOSE, read_picture(LOOSE, "- | 0 new | 0 new | 0 cross | 0 g"), 1)

    def test_by_chance(self):
        chance = random.Random(121)
        done = 0
        for stock in (LOOSE, BENT):
            for _ in range(80):
                done += self.all_of_it(stock, fronted(stock, chance_picture(stock, chance, 20)[0])[0])
        self.assertGreater(done, 200)

    def test_drawn_graphs(self):
        chance = random.Random(122)
        for _ in range(60):
            self.all_of_it(BENT, drawn(BENT, chance_graph(BENT, chance)))

    def test_one_turn_is_the_fewest_where_the_boxes_are_others(self):
        picture = read_picture(LOOSE, "a b a | 0 f | 0 cross | 0 g")
        then, paper = swapped(LOOSE, picture, 1)
        self.assertIs(has_fewest(LOOSE, picture, then, paper), True)
