import copy
import itertools
import random
import unittest

from samples import (
    BENT, BRAID, LOOSE, ODD, STOCKS, all_steps, behind_layer, chance_picture, less_and_twice, put_at, same,
    with_lists, with_more, with_odd,
)
from slidewires.pictures import below_of, boxes_of, is_picture, wires_at

CROSS = ("cross",)
CAP = ("cap",)
SAMPLES = (
    (LOOSE, (("a", "b"), ((0, ("box", "f")), (1, ("box", "new")), (0, CROSS)))),
    (BENT, (("a",), ((1, ("cup", "b")), (0, ("box", "g")), (0, CROSS), (1, CROSS), (2, CAP)))),
    (BRAID, (("a", "b", "a"), ((0, ("over",)), (1, ("under",))))),
)


def one_layer(wires, place, step):
    return (wires, ((place, step),))


class IsPicture(unittest.TestCase):
    def yes(self, stock, thing):
        self.assertIs(is_picture(stock, thing), True, (stock[0], thing))

    def no(self, stock, thing):
        before = copy.deepcopy(thing)
        self.assertIs(is_picture(stock, thing), False, (stock[0], thing))
        self.assertIs(is_picture(stock, thing), False)
        self.assertTrue(same(thing, before))

    def test_no_layers_and_no_feet(self):
        for stock in STOCKS:
            self.yes(stock, ((), ()))
            self.yes(stock, (("a",), ()))
            self.yes(stock, (("b", "a", "a", "b"), ()))
            self.no(stock, (("zz",), ()))
            self.no(stock, (("f",), ()))

    def test_each_step_where_it_is_allowed(self):
        pair = ("a", "a")
        allowed = {
            CROSS: (LOOSE, BENT), ("cup", "a"): (BENT,), CAP: (BENT,), ("over",): (BRAID,), ("under",): (BRAID,),
            ("box", "same"): (LOOSE, BENT), ("box", "dot"): (LOOSE, BENT),
        }
        for step, stocks in allowed.items():
            for stock in STOCKS:
                (self.yes if stock in stocks else self.no)(stock, one_layer(pair, 0, step))

    def test_last_place_and_one_beyond(self):
        four = ("a",) * 4
        for stock, step in ((LOOSE, CROSS), (BENT, CROSS), (BENT, CAP), (BRAID, ("over",)), (BRAID, ("under",)),
                            (LOOSE, ("box", "same")), (BENT, ("box", "same"))):
            self.yes(stock, one_layer(four, 0, step))
            self.yes(stock, one_layer(four, 2, step))
            for place in (3, 4, 5, 10**30):
                self.no(stock, one_layer(four, place, step))
            self.no(stock, one_layer((), 0, step))
            self.no(stock, one_layer(("a",), 0, step))

    def test_steps_that_take_none(self):
        for stock, step in ((LOOSE, ("box", "new")), (LOOSE, ("box", "dot")), (BENT, ("box", "new")),
                            (BENT, ("cup", "b"))):
            for many in range(4):
                wires = ("a",) * many
                for place in range(many + 1):
                    self.yes(stock, one_layer(wires, place, step))
                self.no(stock, one_layer(wires, many + 1, step))
                self.no(stock, one_layer(wires, -1, step))

    def test_sorts_above_a_box(self):
        for stock in (LOOSE, BENT):
            self.yes(stock, one_layer(("a", "b"), 0, ("box", "f")))
            self.yes(stock, one_layer(("b", "a", "b", "b"), 1, ("box", "f")))
            self.no(stock, one_layer(("b", "a"), 0, ("box", "f")))
            self.no(stock, one_layer(("a", "a"), 0, ("box", "f")))
            self.no(stock, one_layer(("a",), 0, ("box", "f")))
            self.no(stock, one_layer(("a", "b"), 0, ("box", "same")))

    def test_cap_of_one_sort_and_of_two(self):
        self.yes(BENT, one_layer(("a", "b", "b"), 1, CAP))
        self.no(BENT, one_layer(("a", "b", "b"), 0, CAP))
        self.no(BENT, one_layer(("b", "a"), 0, CAP))

    def test_what_the_stock_has_not(self):
        for stock in STOCKS:
            self.no(stock, one_layer(("a", "b"), 0, ("box", "zz")))
            self.no(stock, one_layer(("a", "b"), 0, ("box", "a")))
            self.no(stock, one_layer(("a", "b"), 0, ("cup", "zz")))
            self.no(stock, one_layer(("a", "b"), 0, ("cup", "f")))
            self.no(stock, one_layer(("a", "b"), 0, ("bend",)))
            self.no(stock, one_layer(("a", "b"), 0, ("f",)))

    def test_every_step_at_every_place(self):
        for stock in STOCKS:
            for many in range(4):
                for wires in itertools.product(stock[1], repeat=many):
                    for place in range(many + 2):
                        for step in all_steps(stock):
                            fits = behind_layer(stock, wires, place, step) is not None
                            self.assertIs(is_picture(stock, one_layer(wires, place, step)), fits, (wires, place, step))

    def test_a_later_layer_stands_on_what_the_earlier_ones_left(self):
        self.yes(LOOSE, (("a", "b"), ((0, CROSS), (1, ("box", "g")))))
        self.no(LOOSE, (("a", "b"), ((0, CROSS), (0, ("box", "g")))))
        self.no(BENT, (("a", "a"), ((0, CAP), (0, CAP))))
        self.yes(BENT, ((), ((0, ("cup", "a")), (1, ("cup", "a")), (0, CAP), (0, CAP))))

    def test_pictures_by_chance(self):
        chance = random.Random(5)
        for stock in STOCKS:
            for _ in range(300):
                picture, below = chance_picture(stock, chance)
                self.yes(stock, picture)
                for at in range(len(picture[1])):
                    place, step = picture[1][at]
                    self.no(stock, put_at(picture, (1, at, 0), -1))
                    self.no(stock, put_at(picture, (1, at, 0), place + 50))

    def test_places_that_are_none(self):
        for stock, picture in SAMPLES:
            for place in (-1, -2, True, False, "0", "", None, (0,), [0], {}):
                self.no(stock, put_at(picture, (1, 0, 0), place))
        for truth in (True, False):
            self.no(BENT, one_layer(("a", "a", "a"), truth, CAP))
            self.no(LOOSE, one_layer(("a",), truth, ("box", "dot")))

    def test_a_part_more_or_less(self):
        for stock, picture in SAMPLES:
            for thing in with_more(picture):
                self.no(stock, thing)
            fixed = [()]
            for at in range(len(picture[1])):
                fixed += [(1, at), (1, at, 1)]
            for path in fixed:
                for thing in less_and_twice(picture, path):
                    self.no(stock, thing)
        self.no(BENT, one_layer(("a",), 0, ("cup",)))
        self.no(BENT, one_layer(("a",), 0, ("cup", "a", "a")))
        self.no(BENT, one_layer(("a", "a"), 0, ("cap", "a")))
        self.no(LOOSE, one_layer(("a", "a"), 0, ("cross", "a")))
        self.no(LOOSE, one_layer(("a",), 0, ("box",)))
        self.no(LOOSE, one_layer(("a",), 0, ()))

    def test_lists_for_tuples(self):
        for stock, picture in SAMPLES:
            for thing in with_lists(picture) + with_lists((("a",), ())):
                self.no(stock, thing)

    def test_things_of_other_kinds_at_each_place(self):
        def is_place(path, odd):
            return len(path) == 3 and path[2] == 0 and type(odd) is int

        for stock, picture in SAMPLES:
            for thing in with_odd(picture, is_place):
                self.no(stock, thing)
            for thing in ODD:
                self.no(stock, thing)

    def test_beyond_the_bounds_nothing_is_refused(self):
        for stock, step in ((LOOSE, CROSS), (BENT, CROSS), (BRAID, ("over",))):
            self.yes(stock, (("a",) * 30, tuple((i % 29, step) for i in range(100))))
        self.yes(LOOSE, ((), tuple((i, ("box", "new")) for i in range(60))))
        self.yes(BENT, ((), tuple((i, ("cup", "b")) for i in range(60))))


class Wires(unittest.TestCase):
    def test_ahead_of_each_layer_and_at_the_end(self):
        stock, picture = SAMPLES[1]
        rows = [("a",), ("a", "b", "b"), ("b", "a", "b", "b"), ("a", "b", "b", "b"), ("a", "b", "b", "b"), ("a", "b")]
        for at, row in enumerate(rows):
            self.assertTrue(same(wires_at(stock, picture, at), row), at)
        self.assertTrue(same(below_of(stock, picture), ("a", "b")))

    def test_each_sample(self):
        self.assertEqual(below_of(*SAMPLES[0]), ("a", "a"))
        self.assertEqual(below_of(*SAMPLES[2]), ("b", "a", "a"))
        self.assertEqual(below_of(LOOSE, ((), ())), ())
        self.assertEqual(wires_at(LOOSE, (("b", "a"), ()), 0), ("b", "a"))

    def test_by_chance(self):
        chance = random.Random(6)
        for stock in STOCKS:
            for _ in range(100):
                picture, below = chance_picture(stock, chance)
                before = copy.deepcopy(picture)
                wires = picture[0]
                for at, (place, step) in enumerate(picture[1]):
                    self.assertTrue(same(wires_at(stock, picture, at), wires))
                    wires = behind_layer(stock, wires, place, step)
                for _ in range(2):
                    self.assertTrue(same(wires_at(stock, picture, len(picture[1])), wires))
                    self.assertTrue(same(below_of(stock, picture), below))
                self.assertEqual(picture, before)

    def test_boxes(self):
        picture = (("a", "a"), ((0, ("box", "same")), (0, CROSS), (2, ("box", "dot")), (0, ("box", "same"))))
        for _ in range(2):
            self.assertTrue(same(boxes_of(picture), ("same", "dot", "same")))
        self.assertTrue(same(boxes_of((("a",), ())), ()))
        self.assertEqual(boxes_of(SAMPLES[1][1]), ("g",))
        self.assertEqual(boxes_of(SAMPLES[2][1]), ())
        self.assertEqual(boxes_of((("a", "b"), ((0, CROSS), (1, ("cup", "a")), (1, CAP)))), ())
