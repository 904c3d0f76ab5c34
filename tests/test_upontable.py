import random
import unittest

from oddskept.codestates import code_states
from oddskept.coderun import first_state
from oddskept.errors import BadBook, Unfit
from oddskept.families import stairs, tally
from oddskept.judges import judge_table
from oddskept.levels import dead_at, grade_of
from oddskept.nodes import pairs_of
from oddskept.plainbook import PlainBook
from oddskept.stocks import Stock, first_plain
from oddskept.tables import make_table
from oddskept.upon import upon
from oddskept.upontable import upon_table
from oddskept.wholedeeds import atomic
from tests import models
from tests.helpers import code_with, fused_tally, is_exact, lines, loose, shuffled
from tests.test_carry import lasting_stairs
from tests.test_upon import ABOVE, BELOW, FLAG, LOWER, UPPER, WINS, changed, towers


def all_live_pairs(stock):
    """The pairs of all posts behind the first pair that are never dead, not those of fronts alone."""
    return [pair for pair in models.all_sets(stock, (first_state(stock.code), first_plain(stock))) if dead_at(stock, pair) is None]


class Made(unittest.TestCase):
    def check(self, upper, lowers, table, tables):
        made = upon_table(upper, lowers, table, tables)
        flat = upon(upper, lowers)
        self.assertIs(type(made), tuple)
        self.assertTrue(is_exact(made))
        self.assertIs(judge_table(flat, made), True)
        self.assertEqual(len(set(made)), len(made))
        self.assertLessEqual(len(made), len(code_states(flat.code)) * len({plain for _, plain in table}))
        return made

    def test_of_the_example(self):
        table, low = make_table(UPPER), make_table(LOWER)
        made = self.check(UPPER, [LOWER], table, [low])
        self.assertEqual(set(self.check(UPPER, (LOWER,), table, (low,))), set(made))
        self.assertEqual(set(self.check(UPPER, [LOWER], table + table, [low[::-1] + low])), set(made))

    def test_several_ports(self):
        """What wins with two and three callers: the takes of a lower answer can be those of other ports."""
        for ports in (2, 3):
            for told in (BELOW.lines_of("lift"), lines("+", ("set", 1, 1), ("swap", 1, 0, 0), ("answer", 1)),
                         lines(("set", 1, 1), "+", ("swap", 1, 0, 0), ("set", 0, 0), ("answer", 1))):
                upper = Stock(changed(ABOVE, ports=ABOVE.ports * ports), WINS)
                lower = Stock(changed(BELOW, ports=BELOW.ports * ports, deeds=[("lift", told)]), FLAG)
                self.check(upper, [lower], make_table(upper), [make_table(lower)])

    def test_without_lowers(self):
        for stock in (lasting_stairs(), fused_tally()):
            table = make_table(stock)
            self.assertTrue(set(self.check(stock, [], table, [])) <= set(table))

    def test_random_towers(self):
        met = {}
        for upper, lowers, _ in towers(461, 60, 700):
            if all(grade_of(stock) is None for stock in [upper, *lowers]):
                self.check(upper, lowers, make_table(upper), [make_table(lower) for lower in lowers])
                met[len(lowers), len(upper.code.ports)] = True
        self.assertEqual(len(met), 6)

    def test_tables_of_others(self):
        """Tables with pairs that are no members of fronts, in any order."""
        generator = random.Random(462)
        done = 0
        for upper, lowers, _ in towers(463, 60, 250):
            stocks = [upper, *lowers]
            if all(grade_of(stock) is None and len(pairs_of(stock)) < 60 for stock in stocks):
                tables = [tuple(shuffled(generator, all_live_pairs(stock))) for stock in stocks]
                self.assertTrue(all(judge_table(stock, table) for stock, table in zip(stocks, tables)))
                self.check(upper, lowers, tables[0], tables[1:])
                done += 1
        self.assertGreater(done, 15)

    def test_choices_above(self):
        """An upper plain book that can choose; the upper plain state goes with the upper table."""
        plain = PlainBook(3, 0, [("win", 0, 0, 1, 0), ("win", 0, 0, 2, 0), ("win", 1, 0, 1, 1), ("win", 2, 0, 2, 1), ("win", 2, 0, 1, 0)])
        upper = Stock(changed(ABOVE, ports=ABOVE.ports * 2), plain)
        lower = Stock(changed(BELOW, ports=BELOW.ports * 2), FLAG)
        self.check(upper, [lower], make_table(upper), [make_table(lower)])


class Refused(unittest.TestCase):
    def refuse(self, error, *told):
        with self.assertRaises(error) as caught:
            upon_table(*told)
        self.assertIs(type(caught.exception), error)

    def setUp(self):
        self.table, self.low = make_table(UPPER), make_table(LOWER)

    def test_numbers_of_tables(self):
        for tables in ([], [self.low] * 2):
            self.refuse(Unfit, UPPER, [LOWER], self.table, tables)
        self.refuse(Unfit, lasting_stairs(), [], make_table(lasting_stairs()), [self.low])

    def test_tables_that_are_not_accepted(self):
        for at in range(len(self.low)):
            self.refuse(Unfit, UPPER, [LOWER], self.table, [self.low[:at] + self.low[at + 1:]])
        for wrong in ((), self.table[1:], self.table[:-1], self.low):
            self.refuse(Unfit, UPPER, [LOWER], wrong, [self.low])
        self.refuse(Unfit, UPPER, [LOWER], self.table, [self.table])

    def test_stocks_that_do_not_fit(self):
        other = Stock(code_with(ports=[[]]), PlainBook(1, 0, []))
        self.refuse(Unfit, UPPER, [other], self.table, [make_table(other)])
        self.refuse(Unfit, UPPER, [LOWER] * 2, self.table, [self.low] * 2)
        self.refuse(Unfit, UPPER, [], self.table, [])
        lasting = lasting_stairs()
        self.refuse(Unfit, lasting, [lasting], make_table(lasting), [make_table(lasting)])

    def test_bad_books(self):
        upper = Stock(changed(ABOVE, registers=15), WINS)
        self.refuse(BadBook, upper, [LOWER], make_table(upper), [self.low])
        # Unfit goes ahead of it.
        self.refuse(Unfit, upper, [LOWER], make_table(upper), [()])
        self.refuse(Unfit, upper, [LOWER], (), [self.low])
        self.refuse(Unfit, upper, [LOWER], make_table(upper), [])

    def test_grades_that_are_numbers(self):
        """Where a stock has a number as its grade, it has no table."""
        lower = tally([0, 1])
        menus = [[("raise", value) for value in range(3)], [("raise", value) for value in range(3)], [("count", value) for value in range(3)]]
        wide = changed(lower.code, ports=menus)
        lower = Stock(wide, atomic(wide))
        code = changed(wide, registers=1, rows=[], parts=[("tally", lower.plain)], ports=[[("up", 0)], [], [("see", 0)]], deeds=[
            ("up", loose(("use", 0, 0, "raise", 0), ("answer", 0))), ("see", loose(("use", 0, 0, "count", 0), ("answer", 0)))])
        upper = Stock(code, atomic(code))
        self.assertIsNone(make_table(lower))
        self.refuse(Unfit, upper, [lower], make_table(upper), [make_table(upper)])
        self.refuse(Unfit, stairs(1), [], make_table(lasting_stairs()), [])
