import itertools
import random
import unittest
from fractions import Fraction

from oddskept.best import best_odds
from oddskept.codebook import CodeBook
from oddskept.coderun import first_state, walk
from oddskept.errors import TooLarge, Unfit
from oddskept.families import stairs, tally
from oddskept.hall import Hall
from oddskept.judges import judge_script, script_throws, script_worth
from oddskept.levelgraph import LevelGraph
from oddskept.levels import grade_of
from oddskept.parting import parting
from oddskept.plainbook import PlainBook
from oddskept.plans import fits, outcomes, plan_throws, run_plan
from oddskept.posts import front_of, post_row
from oddskept.progbook import most_throws
from oddskept.progtext import read_program, write_program
from oddskept.scripts import make_script, script_of
from oddskept.shares import Share, power
from oddskept.stocks import Stock, first_plain
from oddskept.web import Web
from tests import models
from tests.helpers import broken_tally, code_with, is_exact, loose, random_row, stocks_of_all_grades
from tests.test_best import fraction

WALK = [(0, 2, 0), (1, 2, 0), (0, 0, 0), (1, 0, 0), (1, 0, 0), (2, 0, 1)]
HIT = ((0, 0, 1), (1, 0, 0), (2, 0, 1))


def wide_stock(sides):
    """A stock whose plain object guesses at three picks, so that its front has so many members; none of them can follow hit."""
    menu = [("pick", 0), ("hit", 0), ("down", 0)]
    code = CodeBook(2, 1, [], [], [menu, []], [("pick", loose(("answer", 0))), ("hit", loose(("set", 0, 1), ("answer", 0))), ("down", loose(("answer", 0)))])
    choices = {}
    for leaf in range(sides):
        way = (90, 85 + leaf // 16, 65 + leaf // 4, leaf)
        for one, other in zip(way, way[1:]):
            choices["pick", one, 0, other, 0] = True
        choices["pick", leaf, 0, leaf, 0] = True
    return Stock(code, PlainBook(91, 90, list(choices)))


def wide_script(sides, places=0, moves=0):
    """An accepted script with one throw, filled up to so many places and moves."""
    extra = max(0, moves - 6 - 3 * sides)
    below = []
    for leaf in range(sides):
        more = extra if leaf == sides - 1 else 0
        below.append(((HIT + ((0, 0, 0), (2, 0, 0)) * (more // 2) + ((0, 0, 0),) * (more - more // 2 * 2)), ()))
    left = max(0, places - 1 - sides)
    for leaf in range(sides):
        many = left // sides + (1 if leaf < left - left // sides * sides else 0)
        for _ in range(many):
            below[leaf] = ((), (((leaf, ((), ())), below[leaf]),))
    return (((0, 0, 0), (2, 0, 0)) * 3, tuple(((leaf, ((), ())), script) for leaf, script in enumerate(below)))


def random_accepted(generator, stock, pair, depth):
    """A script that is accepted at a pair that is dead, with rows that lead anywhere, or None."""
    graph = LevelGraph(Web(stock), (pair[0], (pair[1],)))
    if graph.levels[0] is None:
        return None
    if depth == 0:
        return script_of(graph)
    row = tuple(random_row(generator, stock.code, pair[0], generator.randint(0, 5)))
    state = walk(stock.code, pair[0], row)
    children = []
    for member in front_of(stock, post_row(stock, [pair[1]], row)):
        script = random_accepted(generator, stock, (state, member), depth - 1)
        if script is None:
            return script_of(graph)
        children.append((member, script))
    return (row, tuple(children))


def places_in(script):
    return 1 + sum(places_in(child) for _, child in script[1])


class Checks(unittest.TestCase):
    def check(self, stock, script, copies, most_ways=16):
        self.assertTrue(judge_script(stock, script))
        program, plan = parting(stock, script, copies=copies)
        ports = len(stock.code.ports)
        self.assertEqual(program.objects, copies)
        self.assertLessEqual(program.mail, 2 * copies * ports)
        self.assertLessEqual(len(program.threads), 1 + copies * ports)
        self.assertTrue(is_exact(plan))
        self.assertLessEqual(plan_throws(plan), copies * script_throws(script))
        self.assertLessEqual(most_throws(program), copies * script_throws(script))
        self.assertLess(max(len(thread) for thread in program.threads), 15000)
        worth = script_worth(stock, script)
        all_ways = list(itertools.product(["code", "plain"], repeat=copies))
        for ways in all_ways[:1] + all_ways[-most_ways:]:
            hall = Hall(program, [stock] * copies, ways)
            if "plain" not in ways:
                self.assertTrue(fits(hall, plan))
                self.assertTrue(all(run.prints == (1,) for run in outcomes(hall, plan)))
                for tape in ([], [1] * 9, [-5, 10 ** 20, 3, 2]):
                    self.assertEqual(run_plan(hall, plan, tape).prints, (1,))
            self.assertEqual(best_odds(hall, [1]), power(worth, ways.count("plain")))
        return program, plan


class Made(Checks):
    def test_example(self):
        stock = stairs(1)
        program, _ = parting(stock, make_script(stock), copies=2)
        mixed = Hall(program, [stock, stock], ["code", "plain"])
        plain = Hall(program, [stock, stock], ["plain", "plain"])
        self.assertEqual([program.objects, str(best_odds(mixed, [1])), str(best_odds(plain, [1]))], [2, "1/2", "1/4"])

    def test_one_copy_is_the_default(self):
        stock = stairs(1)
        program, plan = parting(stock, make_script(stock))
        other, again = parting(stock, make_script(stock), copies=1)
        self.assertEqual((program.mail, program.objects, program.threads, plan), (other.mail, other.objects, other.threads, again))
        self.assertIs(type(parting(stock, make_script(stock))), tuple)

    def test_stairs(self):
        for height, copies in [(1, 1), (1, 2), (1, 3), (1, 4), (2, 3), (3, 2), (4, 2), (5, 1), (6, 1), (6, 2)]:
            self.check(stairs(height), make_script(stairs(height)), copies)

    def test_tallies(self):
        for order in ([0, 1], [1, 0]):
            for copies in (1, 2, 3, 4):
                self.check(tally(order), make_script(tally(order)), copies)
        self.check(tally([1, 0, 2]), make_script(tally([1, 0, 2])), 2)

    def test_grade_0(self):
        for stock in (broken_tally(), Stock(stairs(1).code, PlainBook(1, 0, []))):
            self.assertEqual(grade_of(stock), 0)
            for copies in (1, 2):
                program, plan = self.check(stock, make_script(stock), copies)
                self.assertEqual((most_throws(program), plan[1]), (0, ()))

    def test_the_walk_by_hand(self):
        """The script of point 63, with 3 places and 17 moves."""
        stock = tally([0, 1])
        asked, done = (1, ((), (), (0, "count", 0))), (1, ((), (), (1, 0)))
        script = (tuple(WALK), ((asked, (((1, 2, 0),) * 3 + ((2, 2, 0),), ())),
                                (done, (((0, 1, 0), (1, 1, 0), (1, 1, 0)) + ((1, 2, 0),) * 3 + ((2, 2, 1),), ()))))
        self.assertEqual(script_worth(stock, script), Share(1, 2))
        for copies in (1, 2, 4):
            self.check(stock, script, copies)

    def test_menus_that_are_empty(self):
        menu = [("pick", 0), ("hit", 0), ("down", 0)]
        for ports in ([[], menu], [[], [], menu, []], [menu, [], menu]):
            code = stairs(1).code
            stock = Stock(CodeBook(2, 1, [], [], ports, code.deeds), stairs(2).plain)
            for copies in (1, 2):
                self.check(stock, make_script(stock), copies)

    def test_items_of_all_numbers(self):
        """The last item of the longest menu, and answers from 0 to 7."""
        for answer in range(8):
            for item in range(6):
                code = CodeBook(8, 1, [], [], [[("go", argument) for argument in range(6)]],
                                [("go", loose(("set", 0, answer), ("answer", 0)))])
                choices = [("go", 0, argument, 0, answer) for argument in range(6) if argument != item]
                stock = Stock(code, PlainBook(1, 0, choices))
                program, _ = self.check(stock, make_script(stock), 1)
                self.assertEqual(make_script(stock)[0][0], (0, 0, item))
                # A plain object that gives another answer wins no more.
                other = Stock(code, PlainBook(1, 0, [*choices, ("go", 0, item, 0, (answer + 1) % 8)]))
                self.assertEqual(best_odds(Hall(program, [other], ["plain"]), [1]), Share(0))
                right = Stock(code, PlainBook(1, 0, [*choices, ("go", 0, item, 0, answer)]))
                self.assertEqual(best_odds(Hall(program, [right], ["plain"]), [1]), Share(1))

    def test_places_with_one_child(self):
        stock = stairs(2)
        state = first_plain(stock)
        script = make_script(stock)
        for _ in range(40):
            script = ((), ((state, script),))
        self.check(stock, script, 2)

    def test_random_stocks(self):
        """Made scripts, and others with longer rows and further throws."""
        generator = random.Random(431)
        met = {}
        for stock in stocks_of_all_grades(432, 36):
            pair = (first_state(stock.code), first_plain(stock))
            if grade_of(stock) is None:
                continue
            for depth in (0, 1, 2, 3):
                script = random_accepted(generator, stock, pair, depth)
                if places_in(script) < 40:
                    self.check(stock, script, 1)
                    if places_in(script) < 6:
                        self.check(stock, script, 2)
                    worth = str(script_worth(stock, script))
                    met[worth] = met.get(worth, 0) + 1
        self.assertGreater(len(met), 2)
        self.assertGreater(sum(met.values()), 50)

    def test_the_worth_between_its_bounds(self):
        """At most 1 less the least chance of a path; at least the greatest one, if the grade is above 0."""
        def chances(script):
            if not script[1]:
                return [Fraction(1)]
            return [one / len(script[1]) for _, child in script[1] for one in chances(child)]
        for stock in stocks_of_all_grades(433, 24) + [stairs(3), tally([0, 1])]:
            script = make_script(stock)
            if script is not None:
                worth = fraction(script_worth(stock, script))
                self.assertEqual(worth, models.worth(stock, script))
                self.assertLessEqual(worth, 1 - min(chances(script)))
                if grade_of(stock):
                    self.assertGreaterEqual(worth, max(chances(script)))

    def test_calls_that_are_left_in_flight(self):
        """What the games before have left does not make the later ones longer."""
        code = code_with(registers=2, rows=[[0]], ports=[[("go", 0), ("go", 1)]] * 4, deeds=[
            ("go", loose(("count", 1, 1, 0, 0), ("write", 0, 0, 0), ("answer", 1)))])
        stock = Stock(code, PlainBook(2, 0, [("go", 0, 0, 1, 0), ("go", 0, 0, 0, 1), ("go", 1, 0, 0, 0)]))
        row = tuple([(0, port, 0) for port in range(1, 4)]) + ((0, 0, 1),) + ((1, 0, 0),) * 2 + ((2, 0, 0),)
        self.assertEqual(grade_of(stock), 0)
        self.check(stock, (row, ()), 4, 1)

    def test_programs_have_texts(self):
        program, _ = parting(tally([0, 1]), make_script(tally([0, 1])), copies=4)
        self.assertEqual(read_program(write_program(program)).threads, program.threads)

    def test_many_sides(self):
        for sides in (2, 59, 60):
            program, plan = self.check(wide_stock(sides), wide_script(sides), 1)
            self.assertEqual(len(plan[1]), sides)
            self.assertEqual(most_throws(program), 1)


class Bounds(Checks):
    def refuse(self, error, stock, script):
        for copies in (1, 4):
            with self.assertRaises(error) as caught:
                parting(stock, script, copies=copies)
            self.assertIs(type(caught.exception), error)

    def test_places(self):
        script = wide_script(60, places=400)
        self.assertEqual(places_in(script), 400)
        self.check(wide_stock(60), script, 1)
        self.refuse(TooLarge, wide_stock(60), wide_script(60, places=401))

    def test_moves(self):
        script = wide_script(60, moves=400)
        self.check(wide_stock(60), script, 1)
        self.refuse(TooLarge, wide_stock(60), wide_script(60, moves=401))
        # In one row.
        stock = wide_stock(1)
        row = HIT + ((0, 0, 0), (2, 0, 0)) * 198
        self.check(stock, (row + ((0, 0, 0),), ()), 4)
        self.refuse(TooLarge, stock, (row + ((0, 0, 0), (2, 0, 0)), ()))

    def test_children(self):
        self.assertTrue(judge_script(wide_stock(61), wide_script(61)))
        self.refuse(TooLarge, wide_stock(61), wide_script(61))
        self.refuse(TooLarge, wide_stock(64), wide_script(64))
        # The place with too many children need not be the first one.
        self.refuse(TooLarge, wide_stock(61), ((), ((first_plain(wide_stock(61)), wide_script(61)),)))

    def test_all_at_their_greatest(self):
        script = wide_script(60, places=400, moves=400)
        program, plan = parting(wide_stock(60), script, copies=4)
        self.assertLess(len(program.threads[0]), 15000)
        self.assertEqual((most_throws(program), len(plan[1])), (4, 60))

    def test_deep_scripts(self):
        stock = stairs(2)
        script = make_script(stock)
        for _ in range(57):
            script = ((), ((first_plain(stock), script),))
        self.check(stock, script, 2)

    def test_scripts_that_are_not_accepted(self):
        stock = stairs(1)
        script = make_script(stock)
        row, children = script
        for wrong in ((row, ()), (row, children[:1]), (row, children[::-1]), (row[:1], children), (row + row, children), ((), ()),
                      (row, (children[0], (children[1][0], ((), ())))), make_script(stairs(2))):
            self.refuse(Unfit, stock, wrong)
        self.refuse(Unfit, tally([0, 1]), script)
        self.refuse(Unfit, Stock(code_with(), PlainBook(1, 0, [("go", 0, 0, 0, 0)])), ((), ()))

    def test_unfit_before_too_large(self):
        row, children = wide_script(61)
        self.refuse(Unfit, wide_stock(61), (row, children[:-1] + (children[0],)))
        self.refuse(Unfit, stairs(1), wide_script(60, moves=401))
        self.refuse(Unfit, stairs(1), wide_script(60, places=401))
