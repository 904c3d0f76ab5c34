import unittest

from oddskept.families import stairs, tally
from oddskept.judges import judge_ladder, judge_table
from oddskept.levels import dead_at, grade_of
from oddskept.nodes import first_node, next_nodes, pairs_of
from oddskept.plainbook import PlainBook
from oddskept.stocks import Stock
from oddskept.tables import make_ladder, make_table
from tests import models
from tests.helpers import broken_tally, code_with, fused_tally, is_exact, long_stairs, stocks_of_all_grades


def reached_nodes(stock):
    """All nodes to which moves and single members lead from the first node."""
    nodes = {first_node(stock): True}
    waiting = list(nodes)
    for node in waiting:
        for one in [goal for _, goal in next_nodes(stock, node)] + [(node[0], (member,)) for member in node[1]]:
            if one not in nodes:
                nodes[one] = True
                waiting.append(one)
    return nodes


class Tables(unittest.TestCase):
    def check(self, stock):
        table = make_table(stock)
        if grade_of(stock) is not None:
            self.assertIsNone(table)
            return
        self.assertIs(type(table), tuple)
        self.assertTrue(is_exact(table))
        self.assertTrue(judge_table(stock, table))
        self.assertEqual(len(set(table)), len(table))
        self.assertTrue(set(table) <= set(pairs_of(stock)))

    def test_for_ever(self):
        self.check(fused_tally())
        self.assertTrue(models.table_is_accepted(fused_tally(), make_table(fused_tally())))
        plain = stairs(4).plain
        self.check(Stock(stairs(4).code, PlainBook(plain.states, 0, plain.choices)))

    def test_numbers(self):
        for stock in (stairs(1), stairs(6), tally([0, 1]), broken_tally(), Stock(stairs(1).code, PlainBook(1, 0, []))):
            self.assertIsNone(make_table(stock))

    def test_no_moves(self):
        stock = Stock(code_with(ports=[[], []]), PlainBook(3, 2, []))
        self.assertEqual(make_table(stock), ((((), (), ((), ())), (2, ((), ()))),))

    def test_random_stocks(self):
        for stock in stocks_of_all_grades(81, 36):
            self.check(stock)

    def test_no_pair_is_ever_dead(self):
        for stock in stocks_of_all_grades(82, 9):
            for pair in make_table(stock) or ():
                self.assertIsNone(dead_at(stock, pair))


class Ladders(unittest.TestCase):
    def check(self, stock, height):
        ladder = make_ladder(stock, height)
        grade = grade_of(stock)
        if grade is not None and grade <= height:
            self.assertIsNone(ladder)
            return
        self.assertIs(type(ladder), tuple)
        self.assertEqual(len(ladder), height + 1)
        self.assertTrue(is_exact(ladder[:3]))
        self.assertTrue(judge_ladder(stock, ladder))
        reached = reached_nodes(stock)
        for number, nodes in enumerate(ladder):
            if number == 0 or nodes != ladder[number - 1]:
                self.assertEqual(len(set(nodes)), len(nodes))
                self.assertTrue(all(node in reached for node in nodes))

    def test_stairs(self):
        for height in range(1, 7):
            for other in range(8):
                self.check(stairs(height), other)

    def test_tallies(self):
        for stock in (tally([0, 1]), tally([1, 0]), broken_tally(), fused_tally()):
            for height in (0, 1, 2):
                self.check(stock, height)
        self.assertTrue(models.ladder_is_accepted(tally([0, 1]), make_ladder(tally([0, 1]), 0)))

    def test_heights_at_the_bounds(self):
        for stock in (stairs(2), broken_tally(), fused_tally(), Stock(code_with(ports=[[]]), PlainBook(1, 0, []))):
            self.check(stock, 0)
            self.check(stock, 1000)
        # One beyond is not refused.
        self.check(fused_tally(), 1001)

    def test_many_lists(self):
        self.check(long_stairs(60), 59)
        self.check(long_stairs(60), 60)
        self.assertIsNone(make_ladder(long_stairs(60), 60))

    def test_random_stocks(self):
        for stock in stocks_of_all_grades(83, 36):
            for height in (0, 1, 2, 9):
                self.check(stock, height)

    def test_without_the_last_list(self):
        """A ladder of height h above 0 is also accepted without its last list."""
        for stock in stocks_of_all_grades(84, 12):
            for height in (1, 2):
                ladder = make_ladder(stock, height)
                if ladder is not None:
                    self.assertTrue(judge_ladder(stock, ladder[:-1]))
