import copy
import itertools
import random
import unittest

from oracles import chance_relations, chance_sizes, relation_anew, slid_about, widths, worths_anew
from samples import BENT, LOOSE, chance_inner, chance_picture, same
from slidewires.drawing import drawn, plain
from slidewires.errors import NoFind, NoFit, NoSlide, NoText, TooWide, WireError
from slidewires.graphs import graph_of
from slidewires.joining import behind, beside, bent_down, bent_up, filled
from slidewires.pictures import below_of
from slidewires.picturetexts import read_picture
from slidewires.relations import read_relation
from slidewires.tables import read_table

SMALL = ("bent", ("a", "b", "c"), (
    ("dot", (), ()), ("new", (), ("b",)), ("gone", ("c",), ()), ("same", ("b",), ("b",)), ("f", ("a", "b"), ("c",)),
    ("wide", ("c",) * 4, ("c",) * 4),
))
# Without the box that has as many pairs as may be.
NARROW = SMALL[:2] + (SMALL[2][:-1],)
SIZES = (1, 2, 3)


class Relations(unittest.TestCase):
    def told(self, stock, filling, picture, expected):
        before = copy.deepcopy((stock, filling, picture))
        for _ in range(2):
            told = read_relation(stock, filling, picture)
            self.assertTrue(same(told, expected), (picture, told, expected))
        self.assertTrue(same((stock, filling, picture), before))

    def too_wide(self, stock, filling, picture, number):
        for _ in range(2):
            with self.assertRaises(TooWide) as caught:
                read_relation(stock, filling, picture)
            self.assertTrue(same(caught.exception.number, number))
            self.assertIsInstance(caught.exception, WireError)
            self.assertNotIsInstance(caught.exception, (NoText, NoFit, NoFind, NoSlide))

    def filling(self, **relations):
        """Boxes that aren't named tell nothing."""
        return (SIZES, tuple(relations.get(box[0], ()) for box in SMALL[2]))

    def text(self, text, expected, filling=None):
        self.told(SMALL, filling or self.filling(), read_picture(SMALL, text), expected)


class Steps(Relations):
    def test_straight_wires(self):
        self.text("-", (((), ()),))
        self.text("a", (((0,), (0,)),))
        self.text("b", (((0,), (0,)), ((1,), (1,))))
        self.text("b c", tuple(((x, y), (x, y)) for x in range(2) for y in range(3)))
        self.text("c b", tuple(((x, y), (x, y)) for x in range(3) for y in range(2)))

    def test_cross_cup_and_cap(self):
        self.text("b c | 0 cross", tuple(((x, y), (y, x)) for x in range(2) for y in range(3)))
        self.text("c a | 0 cross", tuple(((x, 0), (0, x)) for x in range(3)))
        self.text("- | 0 cup c", tuple(((), (x, x)) for x in range(3)))
        self.text("c c | 0 cap", tuple(((x, x), ()) for x in range(3)))
        self.text("b | 0 cup c", tuple(((y,), (x, x, y)) for y in range(2) for x in range(3)))
        self.text("b | 1 cup c", tuple(((y,), (y, x, x)) for y in range(2) for x in range(3)))
        self.text("c b c | 1 cross | 0 cap", tuple(((x, y, x), (y,)) for x in range(3) for y in range(2)))

    def test_rings_tell_nothing_more(self):
        for sort in "abc":
            self.text(f"- | 0 cup {sort} | 0 cap", (((), ()),))
            self.text(f"b | 1 cup {sort} | 1 cap", (((0,), (0,)), ((1,), (1,))))

    def test_each_box(self):
        chance = random.Random(191)
        for _ in range(6):
            filling = chance_relations(SMALL, chance_sizes(SMALL, chance), chance)
            for (name, above, below), relation in zip(SMALL[2], filling[1]):
                self.told(SMALL, filling, (above, ((0, ("box", name)),)), relation)

    def test_boxes_without_feet(self):
        yes = (((), ()),)
        self.text("- | 0 dot", yes, self.filling(dot=yes))
        self.text("- | 0 dot", ())
        self.text("b | 0 dot", (((0,), (0,)), ((1,), (1,))), self.filling(dot=yes))
        self.text("b | 1 dot", ())
        self.text("- | 0 new", (((), (1,)),), self.filling(new=(((), (1,)),)))
        self.text("b | 0 new", (((0,), (1, 0)), ((1,), (1, 1))), self.filling(new=(((), (1,)),)))
        self.text("c b | 0 gone", (((1, 0), (0,)), ((1, 1), (1,))), self.filling(gone=(((1,), ()),)))

    def test_empty_relations(self):
        for text in ("b | 0 same", "b b | 1 same", "c b | 0 gone", "- | 0 dot", "c | 0 new", "- | 0 cup b | 0 same"):
            self.text(text, ())
        only = self.filling(same=(((0,), (1,)),))
        self.text("b | 0 same", (((0,), (1,)),), only)
        self.text("b | 0 same | 0 same", (), only)
        self.text("- | 0 cup b | 0 same | 0 cap", (), only)

    def test_one_behind_another_in_several_ways_is_told_once(self):
        every = tuple(((x,), (y,)) for x in range(2) for y in range(2))
        self.text("b | 0 same | 0 same | 0 same", every, self.filling(same=every))
        self.text("- | 0 cup b | 0 same | 0 cap", (((), ()),), self.filling(same=every))


class Whole(Relations):
    def pictures(self, many, seed, layers=7, wires=4, stocks=(LOOSE, BENT, NARROW)):
        chance = random.Random(seed)
        for stock in stocks:
            done = 0
            while done < many:
                sizes = chance_sizes(stock, chance)
                picture = chance_picture(stock, chance, most_layers=layers, most_wires=wires)[0]
                ties = len(graph_of(stock, picture)[3])
                if max(widths(stock, sizes, picture)) <= 81 and max(sizes) ** ties <= 800:
                    done += 1
                    yield chance, stock, chance_relations(stock, sizes, chance), picture

    def test_against_all_worths_on_all_wires(self):
        empty = full = 0
        for chance, stock, filling, picture in self.pictures(80, 192):
            expected = relation_anew(stock, filling, graph_of(stock, picture))
            empty += expected == ()
            full += len(expected) > 2
            self.told(stock, filling, picture, expected)
        self.assertGreater(min(empty, full), 30)

    def test_slid_pictures_plain_forms_and_drawn_graphs_read_alike(self):
        read = 0
        for chance, stock, filling, picture in self.pictures(30, 193, wires=3):
            others = [slid_about(stock, picture, chance, 10, most_wires=5)[0], plain(stock, picture),
                      drawn(stock, graph_of(stock, picture))]
            for other in others:
                if max(widths(stock, filling[0], other)) <= 81:
                    read += 1
                    self.told(stock, filling, other, read_relation(stock, filling, picture))
        self.assertGreater(read, 200)

    def test_behind_and_beside(self):
        for chance, stock, filling, one in self.pictures(40, 194):
            then = chance_picture(stock, chance, most_layers=5, most_wires=4, above=below_of(stock, one))[0]
            other = chance_picture(stock, chance, most_layers=3, most_wires=3, above=stock[1][:1])[0]
            if max(widths(stock, filling[0], then)) <= 81:
                ones, others = read_relation(stock, filling, one), read_relation(stock, filling, then)
                joined = {(x, z) for x, y in ones for w, z in others if w == y}
                self.told(stock, filling, behind(stock, one, then), tuple(sorted(joined)))
            if max(widths(stock, filling[0], beside(stock, one, other))) <= 81:
                ones, others = read_relation(stock, filling, one), read_relation(stock, filling, other)
                both = [(x + w, y + z) for x, y in ones for w, z in others]
                self.told(stock, filling, beside(stock, one, other), tuple(sorted(both)))

    def test_bent_feet(self):
        for chance, stock, filling, picture in self.pictures(30, 195, wires=3, stocks=(BENT, NARROW)):
            told = read_relation(stock, filling, picture)
            if below_of(stock, picture) and max(widths(stock, filling[0], bent_up(stock, picture))) <= 81:
                bent = [(x + y[-1:], y[:-1]) for x, y in told]
                self.told(stock, filling, bent_up(stock, picture), tuple(sorted(bent)))
            if picture[0] and max(widths(stock, filling[0], bent_down(stock, picture))) <= 81:
                bent = [(x[:-1], y + x[-1:]) for x, y in told]
                self.told(stock, filling, bent_down(stock, picture), tuple(sorted(bent)))

    def test_a_box_filled_by_a_picture(self):
        read = 0
        for chance, stock, filling, picture in self.pictures(30, 196):
            for k, (name, above, below) in enumerate(stock[2]):
                inner = chance_inner(stock, chance, above, below)
                whole = filled(stock, picture, name, inner)
                if max(widths(stock, filling[0], whole) + widths(stock, filling[0], inner)) <= 81:
                    relation = read_relation(stock, filling, inner)
                    refilled = (filling[0], filling[1][:k] + (relation,) + filling[1][k + 1:])
                    self.told(stock, refilled, picture, read_relation(stock, filling, whole))
                    read += ("box", name) in [step for place, step in picture[1]]
        self.assertGreater(read, 40)

    def test_a_relation_is_the_table_of_its_ones(self):
        for chance, stock, filling, picture in self.pictures(20, 197):
            sizes, relations = filling
            tables = tuple(
                tuple(
                    tuple(int((x, y) in relation) for y in worths_anew(stock, sizes, below))
                    for x in worths_anew(stock, sizes, above)
                )
                for (name, above, below), relation in zip(stock[2], relations)
            )
            table = read_table(stock, (sizes, tables), picture)
            ups, downs = (worths_anew(stock, sizes, row) for row in (picture[0], below_of(stock, picture)))
            expected = [(x, y) for x, row in zip(ups, table) for y, number in zip(downs, row) if number]
            self.told(stock, filling, picture, tuple(expected))


class Wide(Relations):
    def test_straight_wires(self):
        stock = ("loose", ("a", "b"), ())
        for sizes in itertools.product((1, 2, 3), repeat=2):
            for ones, others in itertools.product(range(7), repeat=2):
                picture = (("a",) * ones + ("b",) * others, ())
                many = sizes[0] ** ones * sizes[1] ** others
                if many > 81:
                    self.too_wide(stock, (sizes, ()), picture, many)
                else:
                    rows = worths_anew(stock, sizes, picture[0])
                    self.told(stock, (sizes, ()), picture, tuple((row, row) for row in rows))

    def test_the_first_that_is_so(self):
        for text, number in (
            ("c c c c b", 162), ("c c c c c | 0 gone", 243), ("c c c c | 0 cup b", 324),
            ("c c c c | 0 cup c | 0 cap", 729), ("c c c c | 0 cup b | 0 cup c", 324), ("c c c c | 0 new", 162),
            ("c c c c | 0 new | 1 gone", 162), ("c c c | 0 cup b | 0 new", 108),
        ):
            self.too_wide(SMALL, self.filling(), read_picture(SMALL, text), number)

    def test_eighty_one_are_told(self):
        rows = worths_anew(SMALL, SIZES, "cccc")
        chance = random.Random(198)
        some = tuple((x, y) for x in rows for y in rows if chance.randrange(3))
        self.text("c c c c | 0 wide", some, self.filling(wide=some))
        every = tuple((x, y) for x in rows for y in rows)
        self.text("c c c c" + " | 0 wide | 1 cross" * 8, every, self.filling(wide=every))
        self.text("c c c c | 0 wide | 0 wide", tuple((x, x) for x in rows),
                  self.filling(wide=tuple(sorted((x, x[::-1]) for x in rows))))
