import copy
import itertools
import random
import unittest

from oracles import braid_slid_about, braid_text, chance_braid, reduced, words_anew
from samples import BRAID, same
from slidewires.braids import words_of
from slidewires.joining import behind, beside


class Words(unittest.TestCase):
    def told(self, picture, expected, stock=BRAID):
        before = copy.deepcopy((stock, picture))
        for _ in range(2):
            self.assertTrue(same(words_of(stock, picture), expected), picture)
        self.assertTrue(same((stock, picture), before))

    def test_no_layers(self):
        self.told(((), ()), ())
        self.told((("a",), ()), ((1,),))
        for many in range(10):
            self.told(((("a", "b") * 5)[:many], ()), tuple((i + 1,) for i in range(many)))

    def test_one_layer(self):
        self.told(braid_text("2: 0o"), ((1, 2, -1), (1,)))
        self.told(braid_text("2: 0u"), ((2,), (-2, 1, 2)))
        self.told(braid_text("4: 1o"), ((1,), (2, 3, -2), (2,), (4,)))
        self.told(braid_text("4: 1u"), ((1,), (3,), (-3, 2, 3), (4,)))
        self.told(braid_text("4: 2u"), ((1,), (2,), (4,), (-4, 3, 4)))

    def test_two_layers(self):
        self.told(braid_text("2: 0o 0o"), ((1, 2, 1, -2, -1), (1, 2, -1)))
        self.told(braid_text("2: 0u 0u"), ((-2, 1, 2), (-2, -1, 2, 1, 2)))
        self.told(braid_text("3: 0o 1o"), ((1, 2, -1), (1, 3, -1), (1,)))
        self.told(braid_text("3: 1o 0o"), ((1, 2, 3, -2, -1), (1,), (2,)))
        self.told(braid_text("3: 0o 1u"), ((1, 2, -1), (3,), (-3, 1, 3)))
        self.told(braid_text("3: 0u 1u"), ((2,), (3,), (-3, -2, 1, 2, 3)))

    def test_over_and_under_undo_each_other(self):
        for many in range(2, 6):
            straight = tuple((i + 1,) for i in range(many))
            for place in range(many - 1):
                self.told(braid_text(f"{many}: {place}o {place}u"), straight)
                self.told(braid_text(f"{many}: {place}u {place}o"), straight)

    def test_three_layers_of_one_step(self):
        for many in range(3, 6):
            for place in range(many - 2):
                for step in "ou":
                    one = braid_text(f"{many}: {place}{step} {place + 1}{step} {place}{step}")
                    other = braid_text(f"{many}: {place + 1}{step} {place}{step} {place + 1}{step}")
                    self.assertTrue(same(words_of(BRAID, one), words_of(BRAID, other)))
                    self.assertNotEqual(words_of(BRAID, one), tuple((i + 1,) for i in range(many)))

    def test_all_short_ones(self):
        layers = [(place, (word,)) for place in range(2) for word in ("over", "under")]
        for many in range(6):
            for some in itertools.product(layers, repeat=many):
                picture = (("a", "b", "a"), some)
                self.told(picture, words_anew(picture))

    def test_reduced_words_alone(self):
        chance = random.Random(161)
        for _ in range(200):
            picture = chance_braid(BRAID, chance)
            words = words_of(BRAID, picture)
            self.told(picture, words_anew(picture))
            self.assertEqual(len(words), len(picture[0]))
            for word in words:
                self.assertTrue(word)
                for one, other in zip(word, word[1:]):
                    self.assertNotEqual(one, -other)
                for number in word:
                    self.assertIs(type(number), int)
                    self.assertTrue(1 <= abs(number) <= len(picture[0]))

    def test_long_words(self):
        layers = " ".join(("0o", "1u")[k % 2] for k in range(20))
        words = words_of(BRAID, braid_text(f"3: {layers}"))
        self.assertEqual([len(word) for word in words], [13531, 8361, 21891])
        self.told(braid_text(f"3: {layers}"), words_anew(braid_text(f"3: {layers}")))
        chance = random.Random(162)
        for wires in (3, 4, 9):
            for _ in range(20):
                picture = chance_braid(BRAID, chance, wires=wires)
                self.told(picture, words_anew(picture))

    def test_the_product_of_all_words_stays(self):
        """Whatever the braid, all words one behind another come to 1 2 3 .., as nothing is lost."""
        chance = random.Random(163)
        for _ in range(100):
            picture = chance_braid(BRAID, chance)
            letters = reduced(itertools.chain(*words_of(BRAID, picture)))
            self.assertEqual(letters, tuple(range(1, len(picture[0]) + 1)))

    def test_slid_braids_have_the_same_words(self):
        chance = random.Random(164)
        for _ in range(100):
            picture = chance_braid(BRAID, chance, most_layers=12, wires=chance.randrange(2, 6))
            other = braid_slid_about(picture, chance)[0]
            self.assertTrue(same(words_of(BRAID, picture), words_of(BRAID, other)), (picture, other))

    def test_put_behind_and_beside(self):
        chance = random.Random(165)
        for _ in range(50):
            one, other = (chance_braid(("braid", ("a",), ()), chance, 8, 4) for _ in range(2))
            ones, others = words_of(BRAID, one), words_of(BRAID, other)
            put = []
            for word in others:
                letters = []
                for number in word:
                    inner = ones[abs(number) - 1]
                    letters += inner if number > 0 else [-letter for letter in inner[::-1]]
                put.append(letters)
            together = words_of(BRAID, behind(BRAID, one, other))
            self.assertEqual(together, tuple(reduced(letters) for letters in put))
            moved = tuple(tuple(number + (4 if number > 0 else -4) for number in word) for word in others)
            self.assertEqual(words_of(BRAID, beside(BRAID, one, other)), ones + moved)
