import copy
import random
import unittest

from oracles import (
    chance_expression, chance_program, parts_many, picture_run, program_anew, put_in_anew, run_anew,
    slid_about,
)
from samples import LOOSE, chance_inner, chance_picture, same
from slidewires.drawing import drawn, plain
from slidewires.errors import NoFind, NoFit, NoSlide, NoText, TooWide, WireError
from slidewires.graphs import graph_of
from slidewires.joining import behind, beside, filled
from slidewires.pictures import below_of
from slidewires.picturetexts import read_picture
from slidewires.programs import read_program, run

IN = [("in", i) for i in range(9)]
STOCK = ("loose", ("a",), (
    ("new", (), ("a",)), ("gone", ("a",), ()), ("dot", (), ()), ("twice", ("a",), ("a", "a")),
    ("sum", ("a", "a"), ("a",)), ("both", ("a", "a"), ("a", "a")), ("grow", ("a",), ("a",)), ("all", ("a",) * 4, ("a",) * 4),
))
FILLING = (
    (("num", 7),),
    (),
    (),
    (IN[0], IN[0]),
    (("add", IN[0], IN[1]),),
    (("less", IN[0], IN[1]), ("pick", IN[0], IN[1], ("num", -1))),
    (("mul", IN[0], IN[0]),),
    (IN[3], ("add", IN[2], IN[0]), ("num", 0), ("pick", IN[0], IN[1], IN[2])),
)


def sum_of(many):
    """An expression of so many parts (an odd number), as deep as may be."""
    expression = IN[0]
    for _ in range((many - 1) // 2):
        expression = ("add", IN[0], expression)
    return expression


class Programs(unittest.TestCase):
    def told(self, stock, filling, picture, expected):
        before = copy.deepcopy((stock, filling, picture))
        for _ in range(2):
            told = read_program(stock, filling, picture)
            self.assertTrue(same(told, expected), (picture, told, expected))
        self.assertTrue(same((stock, filling, picture), before))

    def too_wide(self, stock, filling, picture, number):
        before = copy.deepcopy((stock, filling, picture))
        for _ in range(2):
            with self.assertRaises(TooWide) as caught:
                read_program(stock, filling, picture)
            self.assertTrue(same(caught.exception.number, number), (picture, caught.exception.number, number))
            self.assertIsInstance(caught.exception, WireError)
            self.assertNotIsInstance(caught.exception, (NoText, NoFit, NoFind, NoSlide))
        self.assertTrue(same((stock, filling, picture), before))

    def text(self, text, *expected):
        self.told(STOCK, FILLING, read_picture(STOCK, text), expected)


class Read(Programs):
    def test_straight_wires(self):
        self.text("-")
        self.text("a", IN[0])
        self.text("a a a", IN[0], IN[1], IN[2])

    def test_crossed_wires(self):
        self.text("a a | 0 cross", IN[1], IN[0])
        self.text("a a a | 0 cross | 1 cross", IN[1], IN[2], IN[0])
        self.text("a a a | 1 cross | 0 cross", IN[2], IN[0], IN[1])
        self.text("a a | 0 cross | 0 sum", ("add", IN[1], IN[0]))

    def test_each_box(self):
        for (name, above, below), expressions in zip(STOCK[2], FILLING):
            self.told(STOCK, FILLING, (above, ((0, ("box", name)),)), expressions)

    def test_boxes_without_feet(self):
        self.text("- | 0 new", ("num", 7))
        self.text("a | 0 new", ("num", 7), IN[0])
        self.text("a | 1 new", IN[0], ("num", 7))
        self.text("a a | 0 gone", IN[1])
        self.text("a a | 1 gone", IN[0])
        self.text("a | 0 dot | 1 dot", IN[0])
        self.text("- | 0 new | 0 gone")
        self.text("- | 0 new | 0 new | 0 sum", ("add", ("num", 7), ("num", 7)))

    def test_several_wires(self):
        self.text("a | 0 twice | 0 sum", ("add", IN[0], IN[0]))
        self.text("a a a | 1 both", IN[0], ("less", IN[1], IN[2]), ("pick", IN[1], IN[2], ("num", -1)))
        less, pick = ("less", IN[0], IN[1]), ("pick", IN[0], IN[1], ("num", -1))
        self.text("a a | 0 both | 0 both", ("less", less, pick), ("pick", less, pick, ("num", -1)))
        self.text("a a | 0 both | 0 cross | 0 sum", ("add", pick, less))
        self.text("a a a a | 0 all", *FILLING[7])
        self.text("a a a a a | 1 all | 0 sum", ("add", IN[0], IN[4]), ("add", IN[3], IN[1]), ("num", 0),
                  ("pick", IN[1], IN[2], IN[3]))

    def test_each_kind(self):
        stock = ("loose", ("a",), (("f", ("a",) * 3, ("a",)), ("g", ("a",), ("a",))))
        # The wires are put in the opposite order, the middle one behind the box g.
        layers = ((1, ("box", "g")), (0, ("cross",)), (1, ("cross",)), (0, ("cross",)), (0, ("box", "f")))
        brought = (IN[2], ("mul", IN[1], ("num", 2)), IN[0])
        for expression in (IN[0], IN[1], IN[2], ("num", 0), ("num", -3), ("num", 10**10), ("add", IN[0], IN[2]),
                           ("mul", IN[1], IN[1]), ("less", IN[2], IN[0]), ("pick", IN[2], IN[1], IN[0]),
                           ("pick", ("num", 1), ("add", IN[0], ("less", IN[1], IN[2])), IN[1])):
            self.told(stock, ((expression,), (("mul", IN[0], ("num", 2)),)), (("a",) * 3, layers),
                      (put_in_anew(expression, brought),))

    def test_a_foot_that_nothing_uses(self):
        stock = ("loose", ("a",), (("f", ("a", "a"), ("a",)),))
        self.told(stock, ((("in", 1),),), (("a", "a"), ((0, ("box", "f")),)), (IN[1],))
        self.told(stock, ((("num", 4),),), (("a", "a"), ((0, ("box", "f")),)), (("num", 4),))

    def test_by_chance(self):
        chance = random.Random(199)
        wide = 0
        for stock in (LOOSE, STOCK):
            for _ in range(150):
                filling = chance_program(stock, chance)
                picture = chance_picture(stock, chance, most_layers=40)[0]
                expected, number = program_anew(stock, filling, picture)
                if expected is None:
                    wide += 1
                    self.too_wide(stock, filling, picture, number)
                    continue
                self.told(stock, filling, picture, expected)
                for _ in range(3):
                    numbers = tuple(chance.choice((0, 1, -1, 5, -(10**10) + 1, 10**9)) for _ in picture[0])
                    told = tuple(run(expression, numbers) for expression in expected)
                    self.assertTrue(same(told, picture_run(stock, filling, picture, numbers)))
        self.assertGreater(wide, 5)


class Wide(Programs):
    def grown(self, times):
        return read_picture(STOCK, "a" + " | 0 grow" * times)

    def test_five_hundred_parts(self):
        stock = ("loose", ("a",), (("f", ("a",), ("a",)), ("g", ("a", "a"), ("a",))))
        picture = (("a", "a"), ((0, ("box", "f")), (0, ("box", "g"))))
        even = ("pick", IN[0], IN[0], sum_of(247))
        for inner, outer, many in (
            (sum_of(247), ("add", IN[0], IN[0]), 495),
            (sum_of(249), ("add", IN[0], IN[0]), 499),
            (sum_of(249), ("pick", IN[0], IN[0], IN[1]), 500),
            (sum_of(249), ("pick", IN[1], IN[0], IN[0]), 500),
            (even, ("add", IN[0], IN[0]), 501),
            (even, ("pick", IN[0], IN[0], IN[1]), 502),
            (sum_of(251), ("mul", IN[0], IN[0]), 503),
            (sum_of(499), ("add", IN[0], IN[1]), 501),
            (sum_of(499), IN[0], 499),
            (sum_of(499), IN[1], 1),
        ):
            told, number = program_anew(stock, ((inner,), (outer,)), picture)
            if many > 500:
                self.assertEqual(number, many)
                self.too_wide(stock, ((inner,), (outer,)), picture, many)
            else:
                self.assertEqual(parts_many(told[0]), many)
                self.told(stock, ((inner,), (outer,)), picture, told)

    def test_growing_twofold(self):
        for times in range(8):
            told = read_program(STOCK, FILLING, self.grown(times))
            self.assertEqual(parts_many(told[0]), 2 ** (times + 1) - 1)
        for times in (8, 9, 40):
            self.too_wide(STOCK, FILLING, self.grown(times), 511)

    def test_the_first_from_the_left(self):
        stock = ("loose", ("a",), (("f", ("a",), ("a", "a", "a")), ("g", ("a",), ("a",))))
        grow = (("mul", IN[0], IN[0]),)
        many = (("a",), ((0, ("box", "g")),) * 7 + ((0, ("box", "f")),))
        self.too_wide(stock, ((IN[0], ("add", IN[0], IN[0]), ("pick", IN[0], IN[0], IN[0])), grow), many, 511)
        self.too_wide(stock, ((IN[0], ("pick", IN[0], IN[0], IN[0]), ("add", IN[0], IN[0])), grow), many, 766)
        self.too_wide(stock, ((("pick", IN[0], IN[0], IN[0]), IN[0], ("add", IN[0], IN[0])), grow), many, 766)
        self.told(stock, ((("add", IN[0], ("num", 1)), IN[0], ("num", 3)), grow), many,
                  program_anew(stock, ((("add", IN[0], ("num", 1)), IN[0], ("num", 3)), grow), many)[0])

    def test_the_first_layer(self):
        picture = read_picture(STOCK, "a a" + " | 1 grow" * 7 + " | 0 twice | 2 grow | 0 grow")
        self.too_wide(STOCK, FILLING, picture, 511)
        picture = read_picture(STOCK, "a a" + " | 1 grow" * 7 + " | 0 grow" * 7 + " | 0 sum | 0 grow")
        self.too_wide(STOCK, FILLING, picture, 511)

    def test_wide_and_then_gone(self):
        self.too_wide(STOCK, FILLING, read_picture(STOCK, "a" + " | 0 grow" * 8 + " | 0 gone"), 511)
        self.text("a" + " | 0 grow" * 7 + " | 0 gone")

    def test_many_expressions_each_not_too_wide(self):
        picture = read_picture(STOCK, "a" + " | 0 grow" * 7 + " | 0 twice | 0 twice | 0 twice")
        self.told(STOCK, FILLING, picture, program_anew(STOCK, FILLING, picture)[0])


class Whole(Programs):
    def pictures(self, many, seed, stocks=(LOOSE, STOCK), layers=10):
        chance = random.Random(seed)
        for stock in stocks:
            done = 0
            while done < many:
                filling = chance_program(stock, chance, 7)
                picture = chance_picture(stock, chance, most_layers=layers)[0]
                if program_anew(stock, filling, picture)[0] is not None:
                    done += 1
                    yield chance, stock, filling, picture

    def test_slid_pictures_plain_forms_and_drawn_graphs_read_alike(self):
        for chance, stock, filling, picture in self.pictures(40, 201):
            told = read_program(stock, filling, picture)
            self.told(stock, filling, slid_about(stock, picture, chance, 10)[0], told)
            self.told(stock, filling, plain(stock, picture), told)
            self.told(stock, filling, drawn(stock, graph_of(stock, picture)), told)

    def test_behind_and_beside(self):
        for chance, stock, filling, one in self.pictures(40, 202):
            then = chance_picture(stock, chance, most_layers=4, above=below_of(stock, one))[0]
            other = chance_picture(stock, chance, most_layers=4)[0]
            if program_anew(stock, filling, other)[0] is not None:
                ones, others = read_program(stock, filling, one), read_program(stock, filling, other)
                by = len(one[0])
                moved = read_program(stock, filling, (("a",) * by + other[0], tuple(
                    (place + by, step) for place, step in other[1])))[by:]
                self.told(stock, filling, beside(stock, one, other), ones + moved)
                self.assertEqual(len(others), len(moved))
            together = behind(stock, one, then)
            if program_anew(stock, filling, together)[0] is not None:
                numbers = tuple(chance.randrange(-9, 10) for _ in one[0])
                between = tuple(run(part, numbers) for part in read_program(stock, filling, one))
                below = tuple(run(part, between) for part in read_program(stock, filling, then))
                told = tuple(run(part, numbers) for part in read_program(stock, filling, together))
                self.assertTrue(same(told, below))

    def test_a_box_filled_by_a_picture(self):
        read = 0
        for chance, stock, filling, picture in self.pictures(40, 203):
            for k, (name, above, below) in enumerate(stock[2]):
                inner = chance_inner(stock, chance, above, below)
                whole = filled(stock, picture, name, inner)
                if all(program_anew(stock, filling, one)[0] is not None for one in (inner, whole)):
                    expressions = read_program(stock, filling, inner)
                    refilled = filling[:k] + (expressions,) + filling[k + 1:]
                    self.told(stock, refilled, picture, read_program(stock, filling, whole))
                    read += ("box", name) in [step for place, step in picture[1]]
        self.assertGreater(read, 50)

    def test_what_was_told_is_handed_in_again(self):
        stock = ("loose", ("a",), (("f", ("a",), ("a",)), ("g", ("a",), ("a",))))
        once = (("a",), ((0, ("box", "f")),))
        filling = ((sum_of(29),), (IN[0],))
        for _ in range(3):
            told = read_program(stock, filling, (("a",), ((0, ("box", "f")), (0, ("box", "g")))))
            filling = (told, (("add", ("num", 1), IN[0]),))
        self.told(stock, (told, ()), once, told)
        deep = (sum_of(499),)
        self.told(stock, (deep, ()), once, deep)
        self.told(stock, (deep, deep), (("a",), ()), (IN[0],))
        self.too_wide(stock, (deep, deep), (("a",), ((0, ("box", "f")), (0, ("box", "g")))), 249 + 250 * 499)


class Run(unittest.TestCase):
    def told(self, expression, numbers, expected):
        before = copy.deepcopy((expression, numbers))
        for _ in range(2):
            self.assertTrue(same(run(expression, numbers), expected), (expression, numbers, run(expression, numbers)))
        self.assertTrue(same((expression, numbers), before))

    def test_in_and_num(self):
        self.told(IN[0], (5,), 5)
        self.told(IN[2], (5, 6, -7), -7)
        self.told(IN[0], (0, 1), 0)
        for number in (0, 1, -1, 10**9, -(10**10) + 1, 10**30):
            self.told(("num", number), (), number)
            self.told(IN[1], (3, number), number)

    def test_add_and_mul(self):
        self.told(("add", IN[0], IN[1]), (2, 3), 5)
        self.told(("add", IN[0], IN[0]), (-2,), -4)
        self.told(("mul", IN[0], IN[1]), (-2, 3), -6)
        self.told(("mul", IN[0], ("num", 0)), (9,), 0)
        self.told(("mul", ("add", IN[0], ("num", 1)), IN[1]), (2, 5), 15)
        self.told(("add", ("mul", IN[0], IN[0]), ("mul", IN[1], IN[1])), (10**10, -(10**10)), 2 * 10**20)

    def test_less(self):
        for one, other in ((0, 0), (0, 1), (1, 0), (-1, 0), (0, -1), (-2, -1), (10**10, 10**10 + 1), (5, 5)):
            self.told(("less", IN[0], IN[1]), (one, other), 1 if one < other else 0)

    def test_pick(self):
        for number in (0, 1, 2, -1, -5, 10**10, -(10**10)):
            self.told(("pick", IN[0], ("num", 11), ("num", 22)), (number,), 22 if number == 0 else 11)
        self.told(("pick", ("less", IN[0], IN[1]), IN[0], IN[1]), (3, 8), 3)
        self.told(("pick", ("less", IN[0], IN[1]), IN[0], IN[1]), (8, 3), 3)
        self.told(("pick", ("num", 1), IN[0], ("pick", ("num", 0), IN[0], IN[1])), (4, 5), 4)
        self.told(("pick", ("num", 0), IN[0], ("pick", ("num", 0), IN[0], IN[1])), (4, 5), 5)

    def test_numbers_that_nothing_uses(self):
        self.told(("num", 3), (1, 2, 3), 3)
        self.told(("add", IN[1], IN[1]), (1, 2, 3), 4)

    def test_by_chance(self):
        chance = random.Random(204)
        for _ in range(500):
            expression = chance_expression(chance, 3, chance.randrange(1, 60))
            numbers = tuple(chance.choice((0, 1, -1, 2, 10**10 - 1, -(10**9))) for _ in range(3))
            self.told(expression, numbers, run_anew(expression, numbers))

    def test_deep_and_great(self):
        self.told(sum_of(499), (3,), 750)
        product = IN[0]
        for k in range(249):
            product = ("mul", product, IN[0]) if k % 2 else ("mul", IN[0], product)
        self.assertEqual(parts_many(product), 499)
        self.told(product, (-(10**10) + 1,), (-(10**10) + 1) ** 250)
        picked = ("num", 8)
        for k in range(166):
            picked = ("pick", IN[k % 2], picked, ("num", k))
        self.told(picked, (1, -1), 8)
        self.told(picked, (0, 1), 164)
        self.told(picked, (1, 0), 165)
