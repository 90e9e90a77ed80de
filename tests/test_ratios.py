import inspect
import random
import unittest
from fractions import Fraction
from math import gcd

from stoke import ratios
from stoke.errors import NoNumber, StokeError
from stoke.ratios import divisor, fraction, minus, plus, times, under


def pair(exact):
    return (exact.numerator, exact.denominator)


def some_fractions(figures, many):
    source = random.Random(figures)
    greatest = 10 ** figures - 1
    tops = [source.randint(-greatest, greatest) for _ in range(many)]
    return [Fraction(top, source.randint(1, greatest)) for top in tops]


SMALL = [Fraction(top, bottom) for top in range(-6, 7) for bottom in (1, 2, 3, 4, 6, 9)]


class DivisorTest(unittest.TestCase):
    def test_edges(self):
        self.assertEqual(divisor(0, 0), 0)
        for number in (1, 7, 12, 10 ** 60):
            with self.subTest(number=number):
                self.assertEqual(divisor(0, number), number)
                self.assertEqual(divisor(number, 0), number)
                self.assertEqual(divisor(0, -number), number)
                self.assertEqual(divisor(-number, 0), number)

    def test_small_numbers_of_either_sign(self):
        for one in range(-30, 31):
            for other in range(-30, 31):
                self.assertEqual(divisor(one, other), gcd(one, other), (one, other))

    def test_great_numbers(self):
        source = random.Random(1)
        for figures in (30, 60, 400):
            for _ in range(20):
                common = source.randint(1, 10 ** (figures // 2))
                one = common * source.randint(-10 ** (figures // 2), 10 ** (figures // 2))
                other = common * source.randint(-10 ** (figures // 2), 10 ** (figures // 2))
                self.assertEqual(divisor(one, other), gcd(one, other), (one, other))


class FractionTest(unittest.TestCase):
    def test_lowest_terms_and_sign(self):
        rows = (
            (6, 4, (3, 2)), (-6, 4, (-3, 2)), (6, -4, (-3, 2)), (-6, -4, (3, 2)), (5, 1, (5, 1)), (5, -1, (-5, 1)),
            (0, 7, (0, 1)), (0, -7, (0, 1)), (12, 12, (1, 1)), (12, -12, (-1, 1)), (1, 10 ** 60, (1, 10 ** 60)),
        )
        for top, bottom, wanted in rows:
            with self.subTest(top=top, bottom=bottom):
                self.assertEqual(fraction(top, bottom), wanted)

    def test_any_two_numbers(self):
        source = random.Random(2)
        for figures in (1, 2, 30, 400):
            greatest = 10 ** figures - 1
            for _ in range(50):
                top = source.randint(-greatest, greatest)
                bottom = source.choice((-1, 1)) * source.randint(1, greatest)
                made = fraction(top, bottom)
                self.assertEqual(made, pair(Fraction(top, bottom)))
                self.assertIs(type(made), tuple)
                self.assertEqual([type(part) for part in made], [int, int])

    def test_no_bottom(self):
        for top in (0, 1, -1, 10 ** 30):
            with self.subTest(top=top):
                with self.assertRaises(NoNumber) as caught:
                    fraction(top, 0)
                self.assertIsInstance(caught.exception, StokeError)
        self.assertEqual(fraction(4, 2), (2, 1))


class ReckoningTest(unittest.TestCase):
    def check(self, one, other):
        told = (pair(one), pair(other))
        self.assertEqual(plus(*told), pair(one + other), told)
        self.assertEqual(minus(*told), pair(one - other), told)
        self.assertEqual(times(*told), pair(one * other), told)
        self.assertIs(under(*told), one < other, told)

    def test_small(self):
        for one in SMALL:
            for other in SMALL:
                self.check(one, other)

    def test_great(self):
        for figures in (30, 400):
            several = some_fractions(figures, 12) + [Fraction(0), Fraction(1), Fraction(-1)]
            for one in several:
                for other in several:
                    self.check(one, other)

    def test_hardly_apart(self):
        great = 10 ** 30 - 1
        self.check(Fraction(great - 1, great), Fraction(great - 2, great - 1))
        self.check(Fraction(great - 2, great - 1), Fraction(great - 1, great))
        self.check(Fraction(1 - great, great), Fraction(2 - great, great - 1))

    def test_none_is_under_itself(self):
        for one in SMALL:
            self.assertIs(under(pair(one), pair(one)), False)

    def test_sums_come_to_plain_tuples_in_lowest_terms(self):
        self.assertEqual(plus((1, 6), (1, 3)), (1, 2))
        self.assertEqual(minus((1, 2), (1, 2)), (0, 1))
        self.assertEqual(minus((1, 3), (1, 2)), (-1, 6))
        self.assertEqual(times((-2, 3), (3, 2)), (-1, 1))
        self.assertEqual(times((0, 1), (-5, 7)), (0, 1))


class InterfaceTest(unittest.TestCase):
    def test_names_and_arguments(self):
        for name in ("divisor", "plus", "minus", "times", "under"):
            with self.subTest(name=name):
                self.assertEqual(list(inspect.signature(getattr(ratios, name)).parameters), ["one", "other"])
        self.assertEqual(list(inspect.signature(fraction).parameters), ["top", "bottom"])


if __name__ == "__main__":
    unittest.main()
