import copy
import itertools
import random
import unittest

from oracles import chance_sizes, chance_tables, slid_about, table_anew, widths, worths_anew
from samples import BENT, LOOSE, chance_inner, chance_picture, same
from slidewires.comparing import compared
from slidewires.drawing import drawn, plain
from slidewires.errors import NoFind, NoFit, NoSlide, NoText, TooWide, WireError
from slidewires.graphs import graph_of
from slidewires.joining import behind, beside, bent_down, bent_up, filled
from slidewires.pictures import below_of
from slidewires.picturetexts import read_picture
from slidewires.slides import slid
from slidewires.tables import read_table

# A box for each number of feet, above and below, and one as wide as may be.
SMALL = ("bent", ("a", "b", "c"), (
    ("dot", (), ()), ("new", (), ("b",)), ("gone", ("c",), ()), ("same", ("b",), ("b",)), ("f", ("a", "b"), ("c",)),
    ("g", ("c",), ("b", "a")), ("pair", (), ("c", "b")), ("wide", ("c",) * 4, ("c",) * 4),
))
SIZES = (1, 2, 3)


class Tables(unittest.TestCase):
    def told(self, stock, filling, picture, expected):
        before = copy.deepcopy((stock, filling, picture))
        for _ in range(2):
            told = read_table(stock, filling, picture)
            self.assertTrue(same(told, expected), (picture, told, expected))
        self.assertTrue(same((stock, filling, picture), before))

    def too_wide(self, stock, filling, picture, number):
        before = copy.deepcopy((stock, filling, picture))
        for _ in range(2):
            with self.assertRaises(TooWide) as caught:
                read_table(stock, filling, picture)
            self.assertTrue(same(caught.exception.number, number), caught.exception.number)
            self.assertIsInstance(caught.exception, WireError)
            self.assertNotIsInstance(caught.exception, (NoText, NoFit, NoFind, NoSlide))
        self.assertTrue(same((stock, filling, picture), before))

    def filling(self, seed=181, sizes=SIZES, most=9):
        return chance_tables(SMALL, sizes, random.Random(seed), most)

    def text(self, text, expected, filling=None):
        self.told(SMALL, filling or self.filling(), read_picture(SMALL, text), expected)


class Steps(Tables):
    def test_straight_wires(self):
        self.text("-", ((1,),))
        self.text("a", ((1,),))
        self.text("b", ((1, 0), (0, 1)))
        self.text("c", ((1, 0, 0), (0, 1, 0), (0, 0, 1)))
        six = tuple(tuple(int(i == k) for k in range(6)) for i in range(6))
        self.text("b c", six)
        self.text("a c b", six)

    def test_each_box(self):
        filling = self.filling()
        for (name, above, below), table in zip(SMALL[2], filling[1]):
            self.told(SMALL, filling, (above, ((0, ("box", name)),)), table)

    def test_cross(self):
        self.text("b c | 0 cross", (
            (1, 0, 0, 0, 0, 0), (0, 0, 1, 0, 0, 0), (0, 0, 0, 0, 1, 0),
            (0, 1, 0, 0, 0, 0), (0, 0, 0, 1, 0, 0), (0, 0, 0, 0, 0, 1),
        ))
        self.text("c b | 0 cross", (
            (1, 0, 0, 0, 0, 0), (0, 0, 0, 1, 0, 0), (0, 1, 0, 0, 0, 0),
            (0, 0, 0, 0, 1, 0), (0, 0, 1, 0, 0, 0), (0, 0, 0, 0, 0, 1),
        ))
        self.text("b b | 0 cross", ((1, 0, 0, 0), (0, 0, 1, 0), (0, 1, 0, 0), (0, 0, 0, 1)))
        self.text("a c | 0 cross", ((1, 0, 0), (0, 1, 0), (0, 0, 1)))

    def test_cup_and_cap(self):
        self.text("- | 0 cup a", ((1,),))
        self.text("- | 0 cup b", ((1, 0, 0, 1),))
        self.text("- | 0 cup c", ((1, 0, 0, 0, 1, 0, 0, 0, 1),))
        self.text("b b | 0 cap", ((1,), (0,), (0,), (1,)))
        self.text("c c | 0 cap", ((1,), (0,), (0,), (0,), (1,), (0,), (0,), (0,), (1,)))
        self.text("b | 1 cup a", ((1, 0), (0, 1)))
        self.text("b | 1 cup b", ((1, 0, 0, 1, 0, 0, 0, 0), (0, 0, 0, 0, 1, 0, 0, 1)))
        self.text("b | 0 cup b", ((1, 0, 0, 0, 0, 0, 1, 0), (0, 1, 0, 0, 0, 0, 0, 1)))
        self.text("b b b | 1 cap", ((1, 0), (0, 0), (0, 0), (1, 0), (0, 1), (0, 0), (0, 0), (0, 1)))

    def test_a_ring_tells_its_sorts_size(self):
        for sort, size in zip("abc", SIZES):
            self.text(f"- | 0 cup {sort} | 0 cap", ((size,),))
            self.text(f"- | 0 cup {sort} | 0 cross | 0 cap", ((size,),))
            self.text(f"b | 1 cup {sort} | 1 cap", ((size, 0), (0, size)))
        self.text("- | 0 cup b | 1 cup c | 1 cap | 0 cap", ((6,),))

    def test_boxes_between_straight_wires(self):
        filling = (SIZES, (((2,),), ((3, 5),), ((7,), (-1,), (0,)), ((1, 2), (3, 4)), ((0,) * 3,) * 2,
                           ((0,) * 2,) * 3, ((0,) * 6,), ((0,) * 81,) * 81))
        self.text("b | 0 dot", ((2, 0), (0, 2)), filling)
        self.text("b | 1 dot | 0 dot", ((4, 0), (0, 4)), filling)
        self.text("b | 0 new", ((3, 0, 5, 0), (0, 3, 0, 5)), filling)
        self.text("b | 1 new", ((3, 5, 0, 0), (0, 0, 3, 5)), filling)
        self.text("c b | 0 gone", ((7, 0), (0, 7), (-1, 0), (0, -1), (0, 0), (0, 0)), filling)
        self.text("b c | 1 gone", ((7, 0), (-1, 0), (0, 0), (0, 7), (0, -1), (0, 0)), filling)
        self.text("b b | 1 same", ((1, 2, 0, 0), (3, 4, 0, 0), (0, 0, 1, 2), (0, 0, 3, 4)), filling)
        self.text("b b | 0 same", ((1, 0, 2, 0), (0, 1, 0, 2), (3, 0, 4, 0), (0, 3, 0, 4)), filling)
        self.text("b | 0 same | 0 same", ((7, 10), (15, 22)), filling)
        self.text("- | 0 cup b | 0 same | 0 cap", ((5,),), filling)
        self.text("- | 0 cup b | 1 same", ((1, 2, 3, 4),), filling)
        self.text("- | 0 new | 0 same", ((18, 26),), filling)

    def test_sums_that_come_to_nought(self):
        filling = (SIZES, (((0,),), ((1, -1),), ((0,),) * 3, ((1, 1), (1, 1)), ((0,) * 3,) * 2,
                           ((0,) * 2,) * 3, ((0,) * 6,), ((0,) * 81,) * 81))
        self.text("- | 0 new | 0 same", ((0, 0),), filling)
        self.text("b | 0 dot", ((0, 0), (0, 0)), filling)

    def test_numbers_of_two_figures_and_greater_ones(self):
        chance = random.Random(182)
        for sizes in itertools.product((1, 2, 3), repeat=3):
            filling = chance_tables(SMALL, sizes, chance, 99)
            for text in ("a b | 0 f | 0 g", "c | 0 g | 0 cross | 0 f", "b | 0 same | 0 same | 0 same"):
                picture = read_picture(SMALL, text)
                self.told(SMALL, filling, picture, table_anew(SMALL, filling, graph_of(SMALL, picture)))
        stock = ("loose", ("a",), (("f", ("a",), ("a",)),))
        picture = (("a",), ((0, ("box", "f")),) * 8)
        self.told(stock, ((1,), (((-99,),),)), picture, ((99**8,),))
        told = read_table(stock, ((1,), (((99,),),)), picture)
        self.told(stock, ((1,), (told,)), picture, ((99**64,),))


class Whole(Tables):
    def pictures(self, many, seed, stocks=(LOOSE, BENT, SMALL), layers=7, wires=4):
        chance = random.Random(seed)
        for stock in stocks:
            done = 0
            while done < many:
                sizes = chance_sizes(stock, chance)
                picture = chance_picture(stock, chance, most_layers=layers, most_wires=wires)[0]
                if max(widths(stock, sizes, picture)) <= 81 and self.choices(stock, sizes, picture) <= 800:
                    done += 1
                    yield chance, stock, chance_tables(stock, sizes, chance), picture

    def choices(self, stock, sizes, picture):
        graph = graph_of(stock, picture)
        of = dict(zip(stock[1], sizes))
        feet = {box[0]: (box[1], box[2]) for box in stock[2]}
        many = 1
        for foot, other in graph[3]:
            sides = feet[graph[2][foot[0] - 1]] if foot[0] else graph[:2]
            many *= of[sides[0 if foot[1] == "up" else 1][foot[2]]]
        return many

    def test_against_all_worths_on_all_wires(self):
        rings = boxes = 0
        for chance, stock, filling, picture in self.pictures(80, 183):
            graph = graph_of(stock, picture)
            rings += graph[4] != ()
            boxes += len(graph[2]) > 1
            self.told(stock, filling, picture, table_anew(stock, filling, graph))
        self.assertGreater(rings, 10)
        self.assertGreater(boxes, 60)

    def test_slid_pictures_read_alike(self):
        long = 0
        for chance, stock, filling, picture in self.pictures(30, 184):
            other, paper = slid_about(stock, picture, chance, 10, most_wires=5)
            if max(widths(stock, filling[0], other)) <= 81:
                long += len(paper) > 4
                self.told(stock, filling, other, read_table(stock, filling, picture))
        self.assertGreater(long, 40)

    def test_the_plain_form_and_the_drawn_graph_read_alike(self):
        read = 0
        for chance, stock, filling, picture in self.pictures(30, 185, wires=3):
            for other in (plain(stock, picture), drawn(stock, graph_of(stock, picture))):
                if max(widths(stock, filling[0], other)) <= 81:
                    read += 1
                    self.told(stock, filling, other, read_table(stock, filling, picture))
        self.assertGreater(read, 120)

    def test_all_pictures_on_the_way_of_a_paper_read_alike(self):
        chance = random.Random(186)
        read = 0
        for text in ("a b | 0 f | 0 g | 1 cup a | 0 gone", "a | 0 g | 0 cross | 0 dot | 0 f", "a a | 0 same | 0 cap"):
            one = here = read_picture(BENT, text)
            other = slid_about(BENT, one, chance, 12)[0]
            kind, paper = compared(BENT, one, other)
            self.assertEqual(kind, "alike")
            filling = chance_tables(BENT, (2, 1), chance)
            for slide in paper:
                here = slid(BENT, here, slide)
                if max(widths(BENT, filling[0], here)) <= 81:
                    self.told(BENT, filling, here, read_table(BENT, filling, one))
                    read += 1
        self.assertGreater(read, 8)

    def test_behind_is_the_product(self):
        for chance, stock, filling, one in self.pictures(25, 187):
            other = chance_picture(stock, chance, most_layers=5, most_wires=4)[0]
            then = chance_picture(stock, chance, most_layers=5, most_wires=4, above=below_of(stock, one))[0]
            if max(widths(stock, filling[0], then)) <= 81:
                ones, others = read_table(stock, filling, one), read_table(stock, filling, then)
                product = tuple(
                    tuple(sum(x * row[k] for x, row in zip(line, others)) for k in range(len(others[0])))
                    for line in ones
                )
                self.told(stock, filling, behind(stock, one, then), product)
            self.each_with_each(stock, filling, one, other)

    def each_with_each(self, stock, filling, one, other):
        together = beside(stock, one, other)
        if max(widths(stock, filling[0], together) + widths(stock, filling[0], other)) <= 81:
            ones, others = read_table(stock, filling, one), read_table(stock, filling, other)
            expected = tuple(
                tuple(x * y for x in line for y in row) for line in ones for row in others
            )
            self.told(stock, filling, together, expected)

    def test_bent_feet(self):
        for chance, stock, filling, picture in self.pictures(20, 188, stocks=(BENT, SMALL), wires=3):
            below = below_of(stock, picture)
            told = read_table(stock, filling, picture)
            if below:
                size = filling[0][stock[1].index(below[-1])]
                bent = bent_up(stock, picture)
                if max(widths(stock, filling[0], bent)) <= 81:
                    # The last worth of a row becomes the last worth above.
                    rows = tuple(row[worth::size] for row in told for worth in range(size))
                    self.told(stock, filling, bent, rows)
            if picture[0]:
                size = filling[0][stock[1].index(picture[0][-1])]
                bent = bent_down(stock, picture)
                if max(widths(stock, filling[0], bent)) <= 81:
                    rows = tuple(
                        tuple(told[k + worth][i] for i in range(len(told[0])) for worth in range(size))
                        for k in range(0, len(told), size)
                    )
                    self.told(stock, filling, bent, rows)

    def test_a_box_filled_by_a_picture(self):
        read = 0
        for chance, stock, filling, picture in self.pictures(40, 189):
            for k, (name, above, below) in enumerate(stock[2]):
                inner = chance_inner(stock, chance, above, below)
                whole = filled(stock, picture, name, inner)
                if max(widths(stock, filling[0], whole) + widths(stock, filling[0], inner)) <= 81:
                    table = read_table(stock, filling, inner)
                    refilled = (filling[0], filling[1][:k] + (table,) + filling[1][k + 1:])
                    self.told(stock, refilled, picture, read_table(stock, filling, whole))
                    read += ("box", name) in [step for place, step in picture[1]]
        self.assertGreater(read, 60)


class Wide(Tables):
    def test_straight_wires(self):
        stock = ("loose", ("a", "b"), ())
        for sizes in itertools.product((1, 2, 3), repeat=2):
            for ones, others in itertools.product(range(8), repeat=2):
                picture = (("a",) * ones + ("b",) * others, ())
                many = sizes[0] ** ones * sizes[1] ** others
                if many > 81:
                    self.too_wide(stock, (sizes, ()), picture, many)
                else:
                    expected = tuple(tuple(int(i == k) for k in range(many)) for i in range(many))
                    self.told(stock, (sizes, ()), picture, expected)

    def test_the_first_that_is_so(self):
        filling = self.filling(sizes=(1, 2, 3))

        def wide(text, number):
            self.too_wide(SMALL, filling, read_picture(SMALL, text), number)
        wide("c c c c b", 162)
        wide("c c c c c", 243)
        wide("c c c c c | 0 gone", 243)
        wide("c c c c | 0 cup b", 324)
        wide("c c c c | 0 cup c | 0 cap", 729)
        wide("c c c c | 0 cup b | 0 cup c", 324)
        wide("c c c c | 0 new", 162)
        wide("c c c c | 0 new | 1 gone", 162)
        wide("c c c b | 0 cup c | 0 cap", 486)
        wide("c c c | 0 cup b | 0 new", 108)
        wide("c c c | 0 pair | 0 cup c", 162)
        wide("c c | 0 cup c | 0 cup a | 0 cup b", 324)

    def test_eighty_one_are_told(self):
        filling = self.filling(sizes=(1, 2, 3), most=99)
        four = read_picture(SMALL, "c c c c")
        self.told(SMALL, filling, four, tuple(tuple(int(i == k) for k in range(81)) for i in range(81)))
        wide = read_picture(SMALL, "c c c c | 0 wide")
        self.told(SMALL, filling, wide, filling[1][7])
        twice = read_picture(SMALL, "c c c c | 0 wide | 0 cup a | 2 gone | 0 cap")
        table = filling[1][7]
        gone = [row[0] for row in filling[1][2]]
        expected = tuple(tuple(sum(row[27 * k + i] * gone[k] for k in range(3)) for i in range(27)) for row in table)
        self.told(SMALL, filling, twice, expected)

    def test_as_great_as_may_be(self):
        filling = self.filling(sizes=(3, 3, 3), most=99)
        layers = []
        for k in range(8):
            layers += [(0, ("box", "wide")), (k % 3, ("cross",)), ((k + 1) % 3, ("cross",))]
        told = read_table(SMALL, filling, (("c",) * 4, tuple(layers)))
        self.assertEqual((len(told), {len(row) for row in told}), (81, {81}))
        product = [[sum(x * y for x, y in zip(row, line)) for line in zip(*filling[1][7])] for row in filling[1][7]]
        self.told(SMALL, filling, (("c",) * 4, ((0, ("box", "wide")),) * 2), tuple(map(tuple, product)))

    def test_by_chance(self):
        chance = random.Random(190)
        seen = {True: 0, False: 0}
        for stock in (LOOSE, BENT, SMALL):
            for _ in range(150):
                sizes = chance_sizes(stock, chance)
                picture = chance_picture(stock, chance, most_layers=10)[0]
                wide = [many for many in widths(stock, sizes, picture) if many > 81]
                filling = chance_tables(stock, sizes, chance)
                seen[bool(wide)] += 1
                if wide:
                    self.too_wide(stock, filling, picture, wide[0])
                else:
                    many = [len(worths_anew(stock, sizes, row)) for row in (picture[0], below_of(stock, picture))]
                    told = read_table(stock, filling, picture)
                    self.assertEqual([len(told), len(told[0])], many)
        self.assertGreater(min(seen.values()), 60)
