"""The walk by hand of point 63, and what is promised for each stock of two families."""

import unittest

from oddskept.best import best_odds, best_plan
from oddskept.coderun import first_state, walk
from oddskept.families import stairs, tally
from oddskept.hall import Hall
from oddskept.judges import judge_script, script_throws, script_worth
from oddskept.levels import dead_at, grade_of
from oddskept.odds import plan_odds
from oddskept.orders import ordered, unordered
from oddskept.parting import parting
from oddskept.plainrun import reach
from oddskept.plans import fits, outcomes
from oddskept.posts import front_of, post, post_row
from oddskept.prices import judge_prices, make_prices
from oddskept.progbook import most_throws
from oddskept.scripts import make_script
from oddskept.shares import Share, power
from oddskept.stocks import first_plain
from oddskept.verdicts import judge_verdict, make_verdict
from oddskept.wholedeeds import whole_deed

STOCK = tally([0, 1])
ROW = ((0, 2, 0), (1, 2, 0), (0, 0, 0), (1, 0, 0), (1, 0, 0), (2, 0, 1))
BEHIND = (((1, 0),), (), ((), (), ("count", 1, (0, 0, 0))))
ASKED = (1, ((), (), (0, "count", 0)))
DONE_0 = (1, ((), (), (1, 0)))
DONE_1 = (1, ((), (), (1, 1)))
TO_ASKED = ((1, 2, 0), (1, 2, 0), (1, 2, 0), (2, 2, 0))
TO_DONE = ((0, 1, 0), (1, 1, 0), (1, 1, 0), (1, 2, 0), (1, 2, 0), (1, 2, 0), (2, 2, 1))
SCRIPT = (ROW, ((ASKED, (TO_ASKED, ())), (DONE_0, (TO_DONE, ()))))


class Walk(unittest.TestCase):
    def test_the_states_of_the_plain_book(self):
        self.assertEqual((STOCK.plain.states, STOCK.plain.first), (4, 0))
        for state, flags in enumerate([(0, 0), (1, 0), (0, 1), (1, 1)]):
            self.assertEqual(whole_deed(STOCK.code, (flags,), (), "count", 0), ((flags,), (), sum(flags)))
            self.assertEqual(STOCK.plain.options("count", state, 0), [(state, sum(flags))])

    def test_the_row(self):
        self.assertEqual(walk(STOCK.code, first_state(STOCK.code), ROW), BEHIND)
        ahead = (0, ((0, "raise", 0), (), (0, "count", 0)))
        self.assertEqual(post_row(STOCK, [first_plain(STOCK)], ROW[:-1]), [ahead])
        self.assertEqual(len(reach(STOCK, ahead)), 5)
        self.assertEqual(post(STOCK, ahead, ROW[-1]), sorted([ASKED, DONE_0, DONE_1]))
        self.assertIn(DONE_1, reach(STOCK, ASKED))
        self.assertEqual(front_of(STOCK, [ASKED, DONE_0, DONE_1]), [ASKED, DONE_0])

    def test_the_two_ends(self):
        for row in (TO_ASKED, TO_DONE):
            walk(STOCK.code, BEHIND, row)
        self.assertEqual(post_row(STOCK, [ASKED], TO_ASKED), [])
        self.assertEqual(post_row(STOCK, [DONE_0], TO_DONE), [])
        for state, row, follows in ((ASKED, TO_DONE, True), (DONE_1, TO_DONE, True), (DONE_0, TO_ASKED, True), (DONE_1, TO_ASKED, False)):
            self.assertEqual(bool(post_row(STOCK, [state], row)), follows)
        for state in (ASKED, DONE_0):
            self.assertEqual(dead_at(STOCK, (BEHIND, state)), 0)
        self.assertEqual(grade_of(STOCK), 1)
        self.assertIsNone(unordered(STOCK))
        self.assertIsNotNone(ordered(STOCK, ROW + TO_ASKED))
        self.assertIsNotNone(ordered(STOCK, ROW + TO_DONE))

    def test_the_script(self):
        self.assertTrue(judge_script(STOCK, SCRIPT))
        self.assertEqual((len(ROW + TO_ASKED + TO_DONE), script_throws(SCRIPT)), (17, 1))
        self.assertEqual(script_worth(STOCK, SCRIPT), Share(1, 2))

    def test_the_made_program(self):
        for copies in (1, 2, 3, 4):
            program, plan = parting(STOCK, SCRIPT, copies=copies)
            self.assertEqual(most_throws(program), copies)
            code, plain = Hall(program, [STOCK] * copies, ["code"] * copies), Hall(program, [STOCK] * copies, ["plain"] * copies)
            self.assertTrue(fits(code, plan))
            self.assertEqual([run.prints for run in outcomes(code, plan)], [(1,)] * 2 ** copies)
            self.assertEqual((best_odds(code, [1]), best_odds(plain, [1])), (Share(1), Share(1, 2 ** copies)))
            best = best_plan(plain, [1])
            self.assertEqual(plan_odds(plain, best, [1]), Share(1, 2 ** copies))

    def test_prices_of_the_made_program(self):
        program, _ = parting(STOCK, SCRIPT)
        for way, share in (("code", Share(1)), ("plain", Share(1, 2))):
            hall = Hall(program, [STOCK], [way])
            prices = make_prices(hall, [1])
            self.assertTrue(judge_prices(hall, [1], prices, share))
            self.assertFalse(judge_prices(hall, [1], prices, share - Share(1, 1000)))


class Families(unittest.TestCase):
    def test_grades_and_worths(self):
        told = [(stairs(height), height, Share(2 ** height - 1, 2 ** height)) for height in range(1, 7)]
        told += [(tally(order), 1, Share(1, 2)) for order in ([0, 1], [1, 0])]
        for stock, grade, worth in told:
            verdict = make_verdict(stock)
            self.assertEqual((verdict.grade, verdict.worth), (grade, worth))
            self.assertTrue(judge_verdict(stock, verdict))
            script = make_script(stock)
            program, _ = parting(stock, script, copies=2)
            for ways in (["plain", "code"], ["plain", "plain"]):
                self.assertEqual(best_odds(Hall(program, [stock] * 2, ways), [1]), power(worth, ways.count("plain")))

