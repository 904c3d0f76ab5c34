import itertools
import unittest

from oddskept.codetext import write_code
from oddskept.errors import Unfit
from oddskept.families import stairs, tally
from oddskept.plaintext import write_plain
from oddskept.stocks import Stock, first_plain
from oddskept.wholedeeds import atomic
from tests.helpers import code_with, fields_of
from tests.test_codetext import TALLY

STAIRS = """modulus 2
registers 1
port pick.0 hit.0 down.0
deed pick
  answer 0
deed hit
  set 0 1
  answer 0
deed down
  answer 0
"""
ONE_STAIR = """states 4
first 1
choice pick 0 0 0 0
choice hit 0 0 0 1
choice down 0 0 0 0
choice pick 1 0 2 0
choice pick 1 0 3 0
choice hit 1 0 0 1
choice down 1 0 0 0
choice pick 2 0 0 0
choice hit 2 0 0 0
choice down 2 0 0 0
choice pick 3 0 0 0
choice hit 3 0 0 1
choice down 3 0 0 1
"""
LEVEL_TWO = """choice pick 4 0 5 0
choice pick 4 0 6 0
choice hit 4 0 0 1
choice down 4 0 0 0
choice pick 5 0 0 0
choice hit 5 0 0 0
choice down 5 0 0 0
choice pick 6 0 0 0
choice hit 6 0 0 1
choice down 6 0 1 0
"""


class Stocks(unittest.TestCase):
    def test_fields(self):
        one, two = stairs(1), tally([0, 1])
        mixed = Stock(one.code, two.plain)
        self.assertIs(mixed.code, one.code)
        self.assertIs(mixed.plain, two.plain)

    def test_first_plain(self):
        self.assertEqual(first_plain(stairs(3)), (7, ((),)))
        self.assertEqual(first_plain(tally([0, 1])), (0, ((), (), ())))
        self.assertEqual(first_plain(Stock(code_with(ports=[[]] * 8), stairs(6).plain)), (16, ((),) * 8))


class Stairs(unittest.TestCase):
    def test_code(self):
        for height in range(1, 7):
            self.assertEqual(write_code(stairs(height).code), STAIRS)

    def test_plain_books(self):
        self.assertEqual(write_plain(stairs(1).plain), ONE_STAIR)
        two = ONE_STAIR.replace("states 4\nfirst 1", "states 7\nfirst 4") + LEVEL_TWO
        self.assertEqual(write_plain(stairs(2).plain), two)

    def test_heights(self):
        for height in range(1, 7):
            plain = stairs(height).plain
            self.assertEqual([plain.states, plain.first, len(plain.choices)],
                             [3 * height + 1, 3 * height - 2, 3 + 10 * height])
            self.assertEqual(plain.options("pick", plain.first, 0), [(plain.first + 1, 0), (plain.first + 2, 0)])
            self.assertEqual(plain.options("down", 3 * height, 0), [(0, 1)] if height == 1 else [(3 * height - 5, 0)])

    def test_refused(self):
        for height in (0, 7, -1, 10 ** 9):
            with self.subTest(height), self.assertRaises(Unfit):
                stairs(height)

    def test_example(self):
        self.assertEqual(stairs(2).plain.choices[18:],
                         (("hit", 5, 0, 0, 0), ("down", 5, 0, 0, 0), ("pick", 6, 0, 0, 0), ("hit", 6, 0, 0, 1),
                          ("down", 6, 0, 1, 0)))


class Tallies(unittest.TestCase):
    def test_code(self):
        self.assertEqual(write_code(tally([0, 1]).code), TALLY)
        turned = TALLY.split("\n")
        turned[11], turned[13] = turned[13], turned[11]
        self.assertEqual(write_code(tally((1, 0)).code), "\n".join(turned))
        self.assertEqual(write_code(tally([2, 0, 1]).code), (
            "modulus 4\nregisters 3\nrow 0 0 0\nport raise.0\nport raise.1\nport raise.2\nport count.0\ndeed raise\n"
            "  set 1 1\n  write 1 0 0 0\n  answer 1\ndeed count\n  read 1 0 2\n  add 2 2 1\n  read 1 0 0\n  add 2 2 1\n"
            "  read 1 0 1\n  add 2 2 1\n  answer 2\n"))

    def test_eight_orders(self):
        orders = list(itertools.permutations(range(2))) + list(itertools.permutations(range(3)))
        self.assertEqual(len(orders), 8)
        for order in orders:
            for told in (order, list(order)):
                stock = tally(told)
                self.assertEqual(stock.plain.states, 2 ** len(order))
                self.assertEqual(fields_of(stock.plain), fields_of(atomic(stock.code)))
                reads = [line[0][3] for line in stock.code.deeds[1][1] if line[0][0] == "read"]
                self.assertEqual(reads, list(order))

    def test_refused(self):
        for order in ([], [0], [1], [0, 0], [1, 2], [0, 2], [0, 1, 1], [0, 1, 3], [1, 2, 3], [0, 1, 2, 3], [0, 1, 2, 2],
                      [-1, 0, 1], [0, -1], [10 ** 9, 0], [0, 1, 2] * 1000):
            for told in (order, tuple(order)):
                with self.subTest(told), self.assertRaises(Unfit):
                    tally(told)

    def test_argument_stays(self):
        order = [2, 1, 0]
        tally(order)
        self.assertEqual(order, [2, 1, 0])
