import itertools
import unittest
from fractions import Fraction

from oddskept.errors import BadShare
from oddskept.shares import Share, greatest, mean, power


def fields(share):
    return (share.top, share.bottom)


class MakingShares(unittest.TestCase):
    def test_lowest_terms(self):
        for top, bottom, told in ((2, 4, (1, 2)), (-2, 4, (-1, 2)), (0, 7, (0, 1)), (6, 3, (2, 1)), (-9, 6, (-3, 2))):
            with self.subTest(top=top, bottom=bottom):
                self.assertEqual(fields(Share(top, bottom)), told)

    def test_default_bottom(self):
        self.assertEqual(fields(Share(3)), (3, 1))
        self.assertEqual(fields(Share(top=0)), (0, 1))
        self.assertEqual(fields(Share(4, bottom=6)), (2, 3))

    def test_bottom_above_0(self):
        for bottom in (0, -1, -10 ** 59):
            with self.subTest(bottom), self.assertRaises(BadShare):
                Share(1, bottom)
        with self.assertRaises(BadShare):
            Share(0, 0)

    def test_large_fields(self):
        big = 10 ** 60 - 1
        self.assertEqual(fields(Share(big, big - 1)), (big, big - 1))
        self.assertEqual(fields(Share(-big, big)), (-1, 1))


class Operators(unittest.TestCase):
    def test_against_fractions(self):
        told = [(top, bottom) for top in range(-4, 5) for bottom in range(1, 5)]
        for one, two in itertools.product(told, told):
            a, b = Share(*one), Share(*two)
            x, y = Fraction(*one), Fraction(*two)
            for share, fraction in ((a + b, x + y), (a - b, x - y), (a * b, x * y)):
                self.assertEqual(fields(share), (fraction.numerator, fraction.denominator))
                self.assertIs(type(share.top), int)
            self.assertIs(a == b, x == y)
            self.assertIs(a != b, x != y)
            self.assertIs(a.at_most(b), x <= y)

    def test_equal_to_shares_alone(self):
        for other in (1, "1/1", None, (1, 1), Fraction(1)):
            with self.subTest(other=other):
                self.assertIs(Share(1) == other, False)
                self.assertIs(other == Share(1), False)

    def test_operands_stay(self):
        a, b = Share(1, 2), Share(1, 3)
        a + b, a - b, a * b
        self.assertEqual([fields(a), fields(b)], [(1, 2), (1, 3)])


class Texts(unittest.TestCase):
    def test_str(self):
        self.assertEqual([str(Share(-1, 2)), str(Share(3)), str(Share(0))], ["-1/2", "3/1", "0/1"])

    def test_long_str(self):
        top, bottom = 10 ** 399 + 1, 10 ** 399
        self.assertEqual(str(Share(top, bottom)), "1" + "0" * 398 + "1/1" + "0" * 399)

    def test_parse_gives_what_str_writes(self):
        for top, bottom in itertools.product(range(-7, 8), range(1, 8)):
            share = Share(top, bottom)
            self.assertEqual(fields(Share.parse(str(share))), fields(share))

    def test_refused(self):
        refused = ["2/4", "-0/1", "+1/2", "01/2", "1/0", "1", "", "/", "1/", "/2", "-/2", "1/02", "1/-2", "-1/-2", "0/2",
                   "0/0", "--1/2", "1/2/3", "1//2", " 1/2", "1/2 ", "1 /2", "1/ 2", "1/2\n", "\n1/2", "1/2\t", "1_0/3",
                   "a/2", "1/b", "1.0/2", "-", "1/+2", "00/1", "-01/2", "1-/2", "0x1/2", "1e3/2"]
        for text in refused:
            with self.subTest(text), self.assertRaises(BadShare):
                Share.parse(text)

    def test_digits(self):
        long = "1" + "0" * 58 + "1"
        self.assertEqual(len(long), 60)
        self.assertEqual(Share.parse(f"{long}/1").top, int(long))
        self.assertEqual(Share.parse(f"-{long}/1").top, -int(long))
        self.assertEqual(Share.parse(f"1/{long}").bottom, int(long))
        for text in (f"{long}0/1", f"-{long}0/1", f"1/{long}0", "9" * 100000 + "/1"):
            with self.subTest(len(text)), self.assertRaises(BadShare):
                Share.parse(text)


class ManyShares(unittest.TestCase):
    def test_mean(self):
        self.assertEqual(fields(mean([Share(1, 2), Share(0), Share(1, 2)])), (1, 3))
        self.assertEqual(fields(mean((Share(-1, 3),))), (-1, 3))
        self.assertEqual(fields(mean([Share(1, 2), Share(-1, 2)])), (0, 1))

    def test_mean_of_none(self):
        for shares in ([], ()):
            with self.assertRaises(BadShare):
                mean(shares)

    def test_greatest(self):
        self.assertEqual(fields(greatest([Share(1, 3), Share(1, 2), Share(2, 5)])), (1, 2))
        self.assertEqual(fields(greatest((Share(0), Share(0)))), (0, 1))
        self.assertEqual(fields(greatest([])), (0, 1))
        self.assertEqual(fields(greatest([Share(1, 10 ** 50 + 1), Share(1, 10 ** 50)])), (1, 10 ** 50))

    def test_power(self):
        self.assertEqual(fields(power(Share(0), 0)), (1, 1))
        self.assertEqual(fields(power(Share(0), 1)), (0, 1))
        self.assertEqual(fields(power(Share(-2, 3), 3)), (-8, 27))
        self.assertEqual(fields(power(Share(1, 2), 100)), (1, 2 ** 100))
        self.assertEqual(fields(power(Share(5, 7), 1)), (5, 7))

    def test_arguments_stay(self):
        shares = [Share(1, 2), Share(1, 3)]
        mean(shares), greatest(shares)
        self.assertEqual([fields(share) for share in shares], [(1, 2), (1, 3)])
        self.assertEqual(len(shares), 2)


class Examples(unittest.TestCase):
    def test_example(self):
        a = Share(2, 4)
        self.assertEqual([str(a), str(a - Share(3)), str(mean([a, Share(0), a])), a.at_most(Share.parse("1/2"))],
                         ["1/2", "-5/2", "1/3", True])
        with self.assertRaises(BadShare):
            Share.parse("2/4")
