import unittest

from slidewires.errors import NoFind, NoFit, NoSlide, NoText, TooWide, WireError

REFUSALS = (NoText, NoFit, NoSlide, NoFind, TooWide)


class Errors(unittest.TestCase):
    def test_each_is_a_wire_error_and_none_of_the_others(self):
        for made in (NoText("why"), NoFit("why"), NoSlide("why"), NoFind("why"), TooWide(82)):
            self.assertIsInstance(made, WireError)
            self.assertIsInstance(made, ValueError)
            self.assertEqual([kind for kind in REFUSALS if isinstance(made, kind)], [type(made)])

    def test_wire_error_is_none_of_them(self):
        made = WireError("why")
        self.assertIsInstance(made, ValueError)
        self.assertFalse(isinstance(made, REFUSALS))

    def test_each_stands_straight_under_wire_error(self):
        self.assertEqual(WireError.__bases__, (ValueError,))
        for kind in REFUSALS:
            self.assertEqual(kind.__bases__, (WireError,))

    def test_too_wide_bears_its_number(self):
        for number in (0, 82, 10**30):
            self.assertEqual(TooWide(number).number, number)
        with self.assertRaises(TooWide) as caught:
            raise TooWide(501)
        self.assertEqual(caught.exception.number, 501)

    def test_a_text_is_borne(self):
        self.assertIn("why so", str(NoText("why so")))
