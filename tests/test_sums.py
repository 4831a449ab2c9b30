import unittest
from fractions import Fraction

from reusewise.errors import Fault, ReuseError
from reusewise.sums import reckoned
from tests.helper import OP_WORDS

NEAR = 10 ** 30 - 1
SHAPES = (("nil", ()), ("cons", (1, ("nil", ()))), ("func f 0", ()), ("func f 1", (2,)))


class Reckoned(unittest.TestCase):
    def told(self, word, a, b, answer):
        for _ in range(2):
            found = reckoned(word, a, b)
            self.assertEqual(found, answer, (word, a, b))
            self.assertIs(type(found), int, (word, a, b))

    def fault(self, word, a, b, told):
        with self.assertRaises(Fault) as caught:
            reckoned(word, a, b)
        self.assertEqual(vars(caught.exception), {"word": told})
        self.assertIsInstance(caught.exception, ReuseError)

    def test_plus_minus_times(self):
        for a, b, plus, minus, times in (
            (7, 3, 10, 4, 21), (-7, 3, -4, -10, -21), (7, -3, 4, 10, -21), (-7, -3, -10, -4, 21), (0, 0, 0, 0, 0),
            (0, 5, 5, -5, 0), (5, 0, 5, 5, 0),
        ):
            self.told("plus", a, b, plus)
            self.told("minus", a, b, minus)
            self.told("times", a, b, times)

    def test_over_and_rest_with_each_sign(self):
        for a, b, over, rest in (
            (7, 3, 2, 1), (-7, 3, -3, 2), (7, -3, -3, -2), (-7, -3, 2, -1), (6, 3, 2, 0), (-6, 3, -2, 0), (6, -3, -2, 0),
            (-6, -3, 2, 0), (0, 3, 0, 0), (0, -3, 0, 0), (1, 3, 0, 1), (-1, 3, -1, 2), (1, -3, -1, -2), (-1, -3, 0, -1),
            (5, 1, 5, 0), (5, -1, -5, 0), (NEAR, NEAR, 1, 0), (-NEAR, NEAR, -1, 0), (NEAR - 1, -NEAR, -1, -1),
        ):
            self.told("over", a, b, over)
            self.told("rest", a, b, rest)

    def test_over_and_rest_fit_together(self):
        for a in range(-20, 21):
            for b in range(-6, 7):
                if b:
                    over = reckoned("over", a, b)
                    self.assertTrue(over <= Fraction(a, b) < over + 1)
                    self.told("rest", a, b, a - b * over)
                    self.assertTrue(0 <= a - b * over < b or b < a - b * over <= 0)

    def test_great_numbers_are_divided_without_loss(self):
        self.told("over", NEAR, 7, NEAR // 7)
        self.told("rest", NEAR, 10 ** 29, 10 ** 29 - 1)

    def test_by_nought(self):
        for a in (0, 1, -1, NEAR):
            self.fault("over", a, 0, "nought")
            self.fault("rest", a, 0, "nought")

    def test_less(self):
        for a, b, answer in ((1, 2, 1), (2, 2, 0), (3, 2, 0), (-3, -2, 1), (-2, -3, 0), (-1, 1, 1), (1, -1, 0), (0, 0, 0)):
            self.told("less", a, b, answer)

    def test_same(self):
        for a, b, answer in ((1, 1, 1), (1, 2, 0), (2, 1, 0), (0, 0, 1), (-1, 1, 0), (-1, -1, 1), (NEAR, NEAR, 1)):
            self.told("same", a, b, answer)

    def test_results_at_the_bounds(self):
        self.told("plus", NEAR - 1, 1, NEAR)
        self.fault("plus", NEAR, 1, "great")
        self.told("plus", 1 - NEAR, -1, -NEAR)
        self.fault("plus", -NEAR, -1, "great")
        self.told("minus", 1 - NEAR, 1, -NEAR)
        self.fault("minus", -NEAR, 1, "great")
        self.told("minus", NEAR - 1, -1, NEAR)
        self.fault("minus", NEAR, -1, "great")
        self.fault("times", 10 ** 15, 10 ** 15, "great")
        self.fault("times", -(10 ** 15), 10 ** 15, "great")
        self.told("times", 10 ** 15, 10 ** 15 - 1, 10 ** 30 - 10 ** 15)
        self.told("times", -(10 ** 15), 10 ** 15 - 1, -(10 ** 30) + 10 ** 15)
        self.fault("times", NEAR, NEAR, "great")
        self.told("times", NEAR, -1, -NEAR)

    def test_what_is_no_number(self):
        for word in OP_WORDS:
            for shape in SHAPES:
                self.fault(word, shape, 1, "nonumber")
                self.fault(word, 1, shape, "nonumber")
                self.fault(word, shape, shape, "nonumber")

    def test_no_number_goes_ahead_of_nought(self):
        for word in ("over", "rest"):
            for shape in SHAPES:
                self.fault(word, shape, 0, "nonumber")
                self.fault(word, 0, shape, "nonumber")


if __name__ == "__main__":
    unittest.main()
