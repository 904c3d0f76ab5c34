import itertools
import random
import unittest

from oddskept.beside import beside
from oddskept.codestates import code_states
from oddskept.coderun import first_state, walk
from oddskept.families import stairs, tally
from oddskept.levelgraph import graph_of
from oddskept.levels import dead_at, grade_of, levels_of
from oddskept.nodes import next_nodes, pairs_of
from oddskept.orders import unordered
from oddskept.plainbook import PlainBook
from oddskept.plainrun import reach
from oddskept.quiet import quiet_lines
from oddskept.stocks import Stock, first_plain
from oddskept.wholedeeds import atomic
from tests import models
from tests.helpers import (CELL, broken_tally, code_with, fused_tally, guessing_stock, is_exact, lines, long_stairs, looping_code,
                           loose, random_code, random_marks, random_plain, shuffled, stocks_of_all_grades)

ASKED = (1, ((), (), (0, "count", 0)))
DONE_0 = (1, ((), (), (1, 0)))
DONE_1 = (1, ((), (), (1, 1)))
BEHIND_ROW = (((1, 0),), (), ((), (), ("count", 1, (0, 0, 0))))


def first_pair(stock):
    return (first_state(stock.code), first_plain(stock))


class Grades(unittest.TestCase):
    def test_example(self):
        stock = stairs(1)
        idle = first_state(stock.code)
        self.assertEqual([grade_of(stock), levels_of(stock), dead_at(stock, (idle, (0, ((),)))), dead_at(stock, (idle, (3, ((),))))],
                         [1, [5, 7], None, 0])

    def test_stairs(self):
        for height in range(1, 7):
            self.assertEqual(grade_of(stairs(height)), height)
            self.assertIs(type(grade_of(stairs(height))), int)

    def test_tallies_of_two(self):
        for order in ([0, 1], [1, 0]):
            self.assertEqual(grade_of(tally(order)), 1)

    def test_tallies_of_three(self):
        for order in itertools.permutations(range(3)):
            self.assertEqual(grade_of(tally(order)), 1)

    def test_grade_0(self):
        self.assertEqual(grade_of(broken_tally()), 0)
        self.assertEqual(grade_of(Stock(stairs(1).code, PlainBook(1, 0, []))), 0)

    def test_for_ever(self):
        self.assertIsNone(grade_of(fused_tally()))
        self.assertIsNone(grade_of(Stock(code_with(ports=[[], []]), PlainBook(3, 2, []))))
        plain = stairs(3).plain
        self.assertIsNone(grade_of(Stock(stairs(3).code, PlainBook(plain.states, 0, plain.choices))))

    def test_a_grade_of_more_than_a_hundred(self):
        self.assertEqual(grade_of(long_stairs(150)), 150)
        self.assertEqual(len(levels_of(long_stairs(150))), 151)

    def test_the_state_must_be_one_ahead_of_the_coin(self):
        # The answer of `pick` leaves two states; each follows one of two rows, so it is not dead at 0.
        stock = stairs(1)
        idle = first_state(stock.code)
        self.assertIsNone(unordered(stock))
        self.assertEqual([dead_at(stock, (idle, (number, ((),)))) for number in range(4)], [None, 1, 0, 0])

    def test_every_state_of_the_post(self):
        # With one more choice of `pick` there is a member that is never dead.
        stock = stairs(2)
        for goal, grade in ((0, None), (1, 2), (4, None), (5, 2), (6, 2)):
            choices = [choice for choice in stock.plain.choices if choice[:2] != ("pick", 4)]
            choices += [("pick", 4, 0, 5, 0), ("pick", 4, 0, 6, 0)]
            if goal not in (5, 6):
                choices.append(("pick", 4, 0, goal, 0))
            self.assertEqual(grade_of(Stock(stock.code, PlainBook(7, 4, choices))), grade)

    def test_grade_0_exactly_with_a_row_without_order(self):
        for stock in stocks_of_all_grades(51, 30):
            self.assertEqual(grade_of(stock) == 0, unordered(stock) is not None)


class LateBeginsAndEarlyAnswers(unittest.TestCase):
    """The grade is found on rows in which calls begin late and answer early; all rows give the same."""

    def test_random_stocks(self):
        generator = random.Random(55)
        met = {}
        while sum(met.values()) < 400:
            code = generator.choice([random_code, looping_code])(generator)
            plain = random_plain(generator, ["go", "hit", "stay"], states=generator.randint(2, 4))
            if generator.random() < 0.4:
                plain = atomic(code)
            stock = generator.choice([Stock(code, plain)] * 3 + [guessing_stock(generator, generator.randint(1, 2))])
            if len(code_states(stock.code)) < 60:
                grade = grade_of(stock)
                self.assertEqual(grade, graph_of(stock).levels[0])
                met[grade] = met.get(grade, 0) + 1
        self.assertGreater(len(met), 2)

    def test_many_ports(self):
        """Four stairs, or two tallies, side by side; three flags; and four callers of one deed."""
        self.assertEqual(grade_of(beside(*[stairs(1)] * 4)), 1)
        self.assertEqual(grade_of(beside(tally([0, 1]), tally([1, 0]))), 1)
        self.assertEqual(grade_of(beside(tally([0, 1, 2]), tally([2, 0, 1]))), 1)
        self.assertIsNone(grade_of(beside(fused_tally(), fused_tally())))
        self.assertEqual(grade_of(beside(fused_tally(), broken_tally())), 0)

    def test_calls_that_wait_or_go_round(self):
        code = code_with(registers=2, rows=[[0]], parts=[("cell", CELL)], ports=[[("wait", 0)], [("up", 1)], [("ring", 0)]], deeds=[
            ("wait", loose(("set", 1, 1), ("use", 0, 0, "wait", 0), ("answer", 0))),
            ("up", lines("+", ("set", 1, 1), ("use", 0, 0, "put", 1), "+", ("copy", 0, 1), ("answer", 0))),
            ("ring", loose(("set", 0, 1), ("jump", 0)))])
        choices = [("wait", 1, 0, 0, 1), ("up", 0, 1, 1, 1), ("up", 1, 1, 1, 1)]
        for kept, grade in ((choices, None), (choices[1:], 0), (choices[:2], 0), (choices[:1], 0)):
            stock = Stock(code, PlainBook(2, 0, kept))
            self.assertEqual((grade_of(stock), graph_of(stock).levels[0]), (grade, grade))

    def test_quiet_lines(self):
        told = [(loose(("set", 0, 1), ("read", 0, 0, 0), ("add", 0, 0, 0), ("answer", 0)), [0, 2]),
                (lines("+", ("set", 0, 1), ("read", 0, 0, 0), "+", ("add", 0, 0, 0), ("answer", 0)), [2]),
                (lines("+", ("set", 0, 1), "+", ("set", 0, 0), ("copy", 0, 0), ("use", 0, 0, "put", 0), ("answer", 0)), [0, 1, 2]),
                (lines("+", ("set", 0, 1), "+", ("jump", 3, 0), ("copy", 0, 0), ("use", 0, 0, "put", 0), ("answer", 0)), [2]),
                (loose(("jump", 0)), []), (loose(("set", 0, 1), ("jump", 0, 0), ("answer", 0)), []),
                (loose(("read", 0, 0, 0), ("jump", 0, 0), ("answer", 0)), [1]), (loose(("answer", 0)), [])]
        for deed, quiet in told:
            self.assertEqual(sorted(quiet_lines(deed)), quiet)


class DeadLevels(unittest.TestCase):
    def test_walk_by_hand(self):
        stock = tally([0, 1])
        row = [(0, 2, 0), (1, 2, 0), (0, 0, 0), (1, 0, 0), (1, 0, 0), (2, 0, 1)]
        self.assertEqual(walk(stock.code, first_state(stock.code), row), BEHIND_ROW)
        self.assertEqual([dead_at(stock, (BEHIND_ROW, plain)) for plain in (ASKED, DONE_0, DONE_1)], [0, 0, 0])
        self.assertEqual(dead_at(stock, first_pair(stock)), 1)

    def test_pairs_that_are_not_reachable(self):
        stock = stairs(1)
        idle, busy = first_state(stock.code), ((), (), (("hit", 1, (1,)),))
        told = [((idle, (0, ((1, 1),))), 0), ((idle, (0, ((0, "pick", 0),))), 0), ((busy, (0, ((),))), 0),
                ((busy, (0, ((1, 1),))), None), ((busy, (3, ((1, 1),))), 0), ((busy, (1, ((0, "hit", 0),))), None),
                ((busy, (2, ((0, "hit", 0),))), 0), ((busy, (1, ((1, 1),))), 1), ((busy, (1, ((0, "nobody", 5),))), 0)]
        for pair, level in told:
            self.assertEqual(dead_at(stock, pair), level, pair)

    def test_against_the_words(self):
        """Point 28 asks every state of the post; the program goes by the node rule."""
        for stock in stocks_of_all_grades(52, 30):
            levels = models.dead_levels(stock, first_pair(stock))
            self.assertEqual(grade_of(stock), levels[first_pair(stock)])
            reachable = pairs_of(stock)
            self.assertTrue(set(reachable) <= levels.keys())
            for pair in reachable[::7] + list(levels)[::11]:
                self.assertEqual(dead_at(stock, pair), levels[pair])
            counts = [sum(levels[pair] is not None and levels[pair] <= level for pair in reachable) for level in range(len(reachable) + 2)]
            last = next(level for level in range(len(counts)) if counts[level] == counts[level + 1])
            told = levels_of(stock)
            self.assertEqual(told, counts[:last + 1])
            self.assertIs(type(told), list)
            self.assertTrue(is_exact(tuple(told)))

    def test_random_pairs_against_the_words(self):
        generator = random.Random(53)
        for _ in range(40):
            stock = guessing_stock(generator, 1)
            for state in shuffled(generator, code_states(stock.code))[:3]:
                pair = (state, (generator.randrange(stock.plain.states), random_marks(generator, ["hit", "down"], 1)))
                self.assertEqual(dead_at(stock, pair), models.dead_levels(stock, pair)[pair])

    def test_reached_by_takes(self):
        """What lies behind takes is dead no later."""
        generator = random.Random(54)
        for _ in range(20):
            stock = guessing_stock(generator, 2)
            for state, plain in generator.sample(pairs_of(stock), 5):
                level = dead_at(stock, (state, plain))
                for behind in reach(stock, plain):
                    other = dead_at(stock, (state, behind))
                    self.assertTrue(level is None or other is not None and other <= level)

    def test_node_rule(self):
        stock = stairs(2)
        (_, (_, members)), = [one for one in next_nodes(stock, (((), (), (("pick", 0, (0,)),)), ((4, ((0, "pick", 0),)),)))]
        idle = first_state(stock.code)
        self.assertEqual([dead_at(stock, (idle, member)) for member in members], [0, 1])


class Levels(unittest.TestCase):
    def test_stairs(self):
        self.assertEqual([levels_of(stairs(height)) for height in (1, 2, 3)], [[5, 7], [8, 12, 14], [11, 15, 19, 21]])

    def test_nothing_dead(self):
        plain = stairs(1).plain
        self.assertEqual(levels_of(Stock(stairs(1).code, PlainBook(plain.states, 0, plain.choices))), [0])
        self.assertEqual(levels_of(Stock(code_with(ports=[[]]), PlainBook(1, 0, []))), [0])

    def test_grade_0(self):
        stock = Stock(stairs(1).code, PlainBook(1, 0, []))
        self.assertEqual(levels_of(stock), [len(pairs_of(stock))])

    def test_dead_pairs_in_a_stock_for_ever(self):
        # `pick` may go to a state that is dead, or stay.
        code = code_with(ports=[[("go", 0)]], deeds=[("go", loose(("answer", 0)))])
        stock = Stock(code, PlainBook(2, 0, [("go", 0, 0, 0, 0), ("go", 0, 0, 1, 0)]))
        self.assertIsNone(grade_of(stock))
        self.assertEqual(levels_of(stock), [2])

    def test_rising(self):
        for stock in [tally([0, 1]), broken_tally(), long_stairs(20)]:
            told = levels_of(stock)
            self.assertEqual(told, sorted(set(told)))
            self.assertLessEqual(told[-1], len(pairs_of(stock)))

    def test_new_list(self):
        stock = stairs(1)
        levels_of(stock).clear()
        self.assertEqual(levels_of(stock), [5, 7])
