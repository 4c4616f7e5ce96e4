import copy
import unittest

from samples import BENT, BRAID, LOOSE, ODD, STEP_WORDS, less_and_twice, put_at, same, with_lists, with_more, with_odd
from slidewires.stocks import feet_of, is_stock

FULL = ("bent", ("a", "b", "c", "d"), tuple((name, ("a", "b", "c", "d"), ("d", "d", "a", "a")) for name in "abcdefgh"))
SMALL = ("loose", ("a",), (("f", ("a", "a"), ("a",)),))
NO_NAMES = STEP_WORDS + ("", "A", "aB", "abcdefghi", "a1", "a b", "a\n", "-", ">", "~")


class IsStock(unittest.TestCase):
    def no_stock(self, thing):
        before = copy.deepcopy(thing)
        self.assertIs(is_stock(thing), False, thing)
        self.assertIs(is_stock(thing), False, thing)
        self.assertTrue(same(thing, before))

    def test_each_manner(self):
        for manner in ("loose", "bent", "braid"):
            self.assertIs(is_stock((manner, ("a",), ())), True)
            self.assertIs(is_stock((manner, ("a", "b", "c", "d"), ())), True)
        for stock in (LOOSE, BENT, BRAID, FULL, SMALL):
            self.assertIs(is_stock(stock), True)
            self.assertIs(is_stock(stock), True)

    def test_feet_none_and_four(self):
        for above in ((), ("a",), ("a",) * 4):
            for below in ((), ("a",), ("a",) * 4):
                self.assertIs(is_stock(("loose", ("a",), (("f", above, below),))), True)

    def test_a_box_may_be_called_like_a_sort_or_a_row(self):
        self.assertIs(is_stock(("loose", ("a", "sort", "abcdefgh"), (("a", ("sort",), ()), ("box", (), ())))), True)

    def test_other_manners(self):
        for manner in ("", "Loose", "loose ", "bents", "a", None, 0, True, [], ("loose",), {}):
            self.no_stock((manner, ("a",), ()))

    def test_too_few_and_too_many(self):
        self.no_stock(("loose", (), ()))
        self.no_stock(("loose", ("a", "b", "c", "d", "e"), ()))
        self.no_stock(("bent", FULL[1], FULL[2] + (("i", (), ()),)))
        self.no_stock(("bent", ("a",), (("f", ("a",) * 5, ()),)))
        self.no_stock(("bent", ("a",), (("f", (), ("a",) * 5),)))

    def test_words_that_are_no_names(self):
        for word in NO_NAMES:
            self.no_stock(("loose", (word,), ()))
            self.no_stock(("loose", ("a", word), ()))
            self.no_stock(("loose", ("a",), ((word, (), ()),)))
            self.no_stock(("bent", ("a",), (("f", (), ()), (word, ("a",), ()))))

    def test_a_name_twice(self):
        self.no_stock(("loose", ("a", "a"), ()))
        self.no_stock(("loose", ("a", "b", "c", "a"), ()))
        self.no_stock(("loose", ("a",), (("f", (), ()), ("f", (), ()))))
        self.no_stock(("loose", ("a",), (("f", (), ()), ("g", (), ()), ("f", ("a",), ()))))

    def test_a_foot_of_no_sort(self):
        for side in (1, 2):
            self.no_stock(put_at(SMALL, (2, 0, side), ("b",)))
            self.no_stock(put_at(SMALL, (2, 0, side), ("a", "f")))

    def test_a_braid_with_a_box(self):
        self.no_stock(("braid", ("a",), (("f", ("a",), ("a",)),)))
        self.no_stock(("braid", ("a",), (("f", (), ()),)))

    def test_lists_for_tuples(self):
        for stock in (LOOSE, BENT, BRAID, FULL, SMALL):
            for thing in with_lists(stock):
                self.no_stock(thing)

    def test_a_part_more_or_less(self):
        for stock in (LOOSE, SMALL):
            for thing in with_more(stock) + less_and_twice(stock, ()) + less_and_twice(stock, (2, 0)):
                self.no_stock(thing)

    def test_things_of_other_kinds_at_each_place(self):
        for stock in (SMALL, BRAID, BENT):
            for thing in with_odd(stock, lambda path, odd: same(odd, ()) and len(path) > 1):
                self.no_stock(thing)
        for thing in ODD + (("loose", ("a",), "f"), ("loose", "a", ()), "loose"):
            self.no_stock(thing)


class FeetOf(unittest.TestCase):
    def test_each_box(self):
        for stock in (LOOSE, BENT, FULL, SMALL):
            before = copy.deepcopy(stock)
            for name, above, below in stock[2]:
                for _ in range(2):
                    self.assertTrue(same(feet_of(stock, name), (above, below)))
            self.assertEqual(stock, before)

    def test_none_and_four(self):
        self.assertEqual(feet_of(LOOSE, "dot"), ((), ()))
        self.assertEqual(feet_of(LOOSE, "new"), ((), ("a",)))
        self.assertEqual(feet_of(LOOSE, "gone"), (("b",), ()))
        self.assertEqual(feet_of(FULL, "h"), (("a", "b", "c", "d"), ("d", "d", "a", "a")))
