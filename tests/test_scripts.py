import random
import unittest

from oddskept.coderun import first_state, walk
from oddskept.families import stairs, tally
from oddskept.judges import judge_ladder, judge_script, judge_table, script_throws, script_worth
from oddskept.levels import dead_at, grade_of
from oddskept.orders import unordered
from oddskept.plainbook import PlainBook
from oddskept.scripts import make_script
from oddskept.shares import Share
from oddskept.stocks import Stock, first_plain
from oddskept.tables import make_ladder, make_table
from tests import models
from tests.helpers import broken_tally, code_with, fused_tally, is_exact, long_stairs, stocks_of_all_grades
from tests.test_judges import STAIRS


def shortest(stock, pair, level):
    """The number of moves of a shortest row that gives a pair its dead level, over whole posts."""
    levels = models.dead_levels(stock, pair)
    return min(many for (state, plains), many in models.sets_from(stock, pair).items()
               if all(levels[state, plain] is not None and levels[state, plain] < level for plain in plains))


class MadeScripts(unittest.TestCase):
    def check(self, stock):
        script = make_script(stock)
        grade = grade_of(stock)
        if grade is None:
            self.assertIsNone(script)
            return
        self.assertTrue(is_exact(script))
        self.assertTrue(judge_script(stock, script))
        self.assertEqual(script_throws(script), grade)
        worth = script_worth(stock, script)
        self.assertTrue(worth != Share(1) and worth.at_most(Share(1)))
        self.assertEqual(worth == Share(0), grade == 0)
        self.check_places(stock, script, (first_state(stock.code), first_plain(stock)))

    def check_places(self, stock, script, pair):
        row, children = script
        level = dead_at(stock, pair)
        self.assertGreater(len(row), 0)
        self.assertNotEqual(len(children), 1)
        self.assertEqual(len(row), shortest(stock, pair, level))
        state = walk(stock.code, pair[0], row)
        self.assertEqual(len(children) == 0, level == 0)
        for member, child in children:
            self.assertLess(dead_at(stock, (state, member)), level)
            self.check_places(stock, child, (state, member))

    def test_example(self):
        script = make_script(stairs(1))
        self.assertEqual([script, script_throws(script), str(script_worth(stairs(1), script))], [
            (((0, 0, 0), (2, 0, 0)), (((2, ((),)), (((0, 0, 1), (1, 0, 0), (2, 0, 1)), ())), ((3, ((),)), (((0, 0, 2), (2, 0, 0)), ())))),
            1, "1/2"])
        self.assertEqual(script, STAIRS)

    def test_stairs(self):
        """There is one script alone: `pick`, and below each level `hit` or `down`."""
        script = STAIRS
        for height in range(2, 7):
            top = 3 * height - 1
            rest = script
            # In the upper state `hit` cannot be followed; in the other one `down` leads to the level below.
            row, children = rest
            script = (((0, 0, 0), (2, 0, 0)), (((top, ((),)), (((0, 0, 1), (1, 0, 0), (2, 0, 1)), ())),
                                               ((top + 1, ((),)), (((0, 0, 2), (2, 0, 0)) + row, children))))
            self.assertEqual(make_script(stairs(height)), script)
            self.check(stairs(height))

    def test_tallies(self):
        script = make_script(broken_tally())
        self.assertTrue(judge_script(broken_tally(), script))
        self.assertEqual((len(script[0]), script[1]), (len(unordered(broken_tally())), ()))
        for order in ([0, 1], [1, 0]):
            script = make_script(tally(order))
            self.assertTrue(judge_script(tally(order), script))
            self.assertEqual((script_throws(script), str(script_worth(tally(order), script))), (1, "1/2"))
            self.assertLessEqual(len(script[0]), 6)

    def test_tally_of_three(self):
        stock = tally([1, 0, 2])
        script = make_script(stock)
        self.assertTrue(judge_script(stock, script))
        self.assertEqual(script_throws(script), 1)

    def test_grade_0(self):
        stock = Stock(stairs(1).code, PlainBook(1, 0, [("pick", 0, 0, 0, 0), ("hit", 0, 0, 0, 0), ("down", 0, 0, 0, 0)]))
        self.assertEqual(make_script(stock), (((0, 0, 1), (1, 0, 0), (2, 0, 1)), ()))

    def test_for_ever(self):
        self.assertIsNone(make_script(fused_tally()))
        self.assertIsNone(make_script(Stock(code_with(ports=[[]]), PlainBook(1, 0, []))))

    def test_a_long_way_down(self):
        stock = long_stairs(150)
        script = make_script(stock)
        self.assertEqual(script_throws(script), 150)
        self.assertTrue(judge_script(stock, script))
        self.assertEqual(script_worth(stock, script), Share(2 ** 150 - 1, 2 ** 150))

    def test_random_stocks(self):
        for stock in stocks_of_all_grades(91, 30):
            self.check(stock)


class Facts(unittest.TestCase):
    """Point 36: what papers say together."""

    def test_one_side_alone(self):
        for stock in stocks_of_all_grades(92, 30):
            grade = grade_of(stock)
            script, table = make_script(stock), make_table(stock)
            self.assertEqual(script is None, table is not None)
            self.assertEqual(table is not None and judge_table(stock, table), grade is None)
            for height in (0, 1, 2):
                ladder = make_ladder(stock, height)
                self.assertEqual(ladder is not None and judge_ladder(stock, ladder), grade is None or grade > height)

    def test_papers_of_other_stocks(self):
        generator = random.Random(93)
        stocks = stocks_of_all_grades(94, 30)
        for stock in stocks:
            other = generator.choice(stocks)
            other = Stock(stock.code, PlainBook(stock.plain.states, generator.randrange(stock.plain.states), stock.plain.choices[::2]))
            grade = grade_of(stock)
            script = make_script(other)
            if script is not None and judge_script(stock, script):
                self.assertTrue(grade is not None and grade <= script_throws(script))
                self.assertTrue(script_worth(stock, script) != Share(1))
            table = make_table(other)
            if table is not None and judge_table(stock, table):
                self.assertIsNone(grade)
