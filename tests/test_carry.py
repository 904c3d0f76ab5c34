import random
import unittest

from oddskept.best import best_odds, best_plan
from oddskept.carry import carry
from oddskept.coderun import first_state, moves_of
from oddskept.errors import BadPlan, Unfit
from oddskept.families import stairs, tally
from oddskept.hall import Hall, first_position
from oddskept.judges import judge_ladder, judge_table
from oddskept.levels import dead_at, grade_of
from oddskept.parting import parting
from oddskept.plainbook import PlainBook
from oddskept.plans import fits, outcomes, plan_throws, run_plan
from oddskept.progbook import Program, most_throws
from oddskept.scripts import make_script
from oddskept.shares import Share
from oddskept.stocks import Stock
from oddskept.tables import make_ladder, make_table
from tests import models
from tests.helpers import broken_tally, fused_tally, is_exact, loose, shuffled, stocks_of_all_grades
from tests.test_best import fraction
from tests.test_plans import deep_plan, random_plan

STOP = ("stop",)
EMPTY = ((), ())
ONE_CALL = Program(0, 1, [[("call", 0, 0, 0, 1), ("print", 0), STOP]])


def lasting_stairs():
    """Stairs that begin in the state that follows all that the code does, so that the grade is None."""
    stock = stairs(2)
    return Stock(stock.code, PlainBook(stock.plain.states, 0, stock.plain.choices))


def calling_hall(generator, stocks, ways):
    """A hall of three threads that call all ports of the objects, throw and print."""
    ports = [(number, port) for number, stock in enumerate(stocks) for port, menu in enumerate(stock.code.ports) if menu]
    threads = []
    for number in range(3):
        mine = ports[number::3]
        told = []
        for _ in range(generator.randint(2, 7)):
            words = [("throw", generator.randrange(3), generator.choice([2, 3])), ("print", 0), ("set", 0, generator.randrange(6))]
            if mine and generator.random() < 0.6:
                words = [("call", generator.randrange(3), *generator.choice(mine), generator.randrange(3))]
            told.append(generator.choice(words))
        threads.append(told + [STOP])
    return Hall(Program(0, len(stocks), threads), stocks, ways)


def paths(plan):
    """The number of picks on each path, by the numbers of its branches."""
    picks, branches = plan
    if not branches:
        return {(): len(picks)}
    return {(side, *rest): len(picks) + many for side, branch in enumerate(branches) for rest, many in paths(branch).items()}


def target_of(hall, papers):
    ways = [way if paper is None else "plain" for way, paper in zip(hall.ways, papers)]
    return Hall(hall.program, hall.stocks, ways)


def paper_for(generator, stock, throws):
    """A table or a ladder that serves plans with so many throws, None if there is none."""
    grade = grade_of(stock)
    if grade is None and generator.random() < 0.6:
        return ("table", make_table(stock))
    if grade is None or grade > throws:
        highest = throws + 2 if grade is None else grade - 1
        return ("ladder", make_ladder(stock, generator.randint(throws, highest)))
    return None


class Carried(unittest.TestCase):
    def check(self, hall, papers, plan):
        """The plan fits the target, branches alike, has the same traces, and few more picks."""
        carried = carry(hall, papers, plan)
        self.assertTrue(is_exact(carried))
        target = target_of(hall, papers)
        self.assertTrue(fits(target, carried))
        given = list(outcomes(hall, plan))
        told = list(outcomes(target, carried))
        self.assertEqual([(run.trace, run.sides, run.chance) for run in told], [(run.trace, run.sides, run.chance) for run in given])
        before, behind = paths(plan), paths(carried)
        self.assertEqual(list(behind), list(before))
        for run in given:
            begins = len([event for event in run.trace if event[2] == "begin"])
            self.assertLessEqual(behind[run.sides], before[run.sides] + begins)
        for tape in ([], [1, 1, 1, 1], [-1, 7, 2, 5]):
            self.assertEqual(run_plan(target, carried, tape).trace, run_plan(hall, plan, tape).trace)
        return carried

    def test_example(self):
        papers = [("ladder", make_ladder(stairs(1), 0))]
        carried = self.check(Hall(ONE_CALL, [stairs(1)], ["code"]), papers, (((0, 0),) * 3, ()))
        self.assertEqual(run_plan(Hall(ONE_CALL, [stairs(1)], ["plain"]), carried, []).trace,
                         ((0, 0, "begin", 0), (0, 0, "end", 0), (0, 1, "print", 0)))

    def test_nothing_to_carry(self):
        thread = [("throw", 0, 2), ("print", 0), STOP]
        plan = (((0, 0),), ((((0, 0),), ()), EMPTY))
        hall = Hall(Program(0, 0, [thread]), [], [])
        self.assertEqual(self.check(hall, [], plan), plan)
        self.assertEqual(self.check(hall, (), EMPTY), EMPTY)
        for way in ("code", "plain"):
            hall = Hall(Program(0, 1, [thread]), [stairs(1)], [way])
            self.assertEqual(self.check(hall, [None], plan), plan)

    def test_objects_that_stay(self):
        program = Program(0, 3, [[("call", 0, number, 0, 0), ("print", 0), STOP] for number in range(3)])
        stocks = [stairs(1), lasting_stairs(), stairs(2)]
        hall = Hall(program, stocks, ["code", "code", "plain"])
        plan = (((0, 0), (1, 0), (2, 0), (2, 1), (0, 0), (1, 0), (2, 0), (1, 0), (0, 0), (2, 0)), ())
        ladder, table = ("ladder", make_ladder(stairs(1), 0)), ("table", make_table(lasting_stairs()))
        for papers in ([None, None, None], [ladder, None, None], [None, table, None], [ladder, table, None], (ladder, table, None)):
            carried = self.check(hall, papers, plan)
            self.assertIn((2, 1), carried[0])

    def test_plans_that_end_within_calls(self):
        stock = tally([0, 1])
        program = Program(0, 1, [[("call", 0, 0, port, 0), ("print", 0), STOP] for port in range(3)])
        hall = Hall(program, [stock], ["code"])
        papers = [("ladder", make_ladder(stock, 0))]
        picks = ((2, 0), (2, 0), (0, 0), (0, 0), (0, 0), (0, 0), (1, 0), (1, 0), (1, 0), (2, 0), (2, 0), (2, 0), (2, 0), (1, 0), (2, 0))
        for many in range(len(picks) + 1):
            self.check(hall, papers, (picks[:many], ()))

    def test_takes_of_other_ports(self):
        """The count answers 2 while both flags are written, but neither raise has answered."""
        stock = fused_tally()
        program = Program(0, 1, [[("call", 0, 0, port, 0), ("print", 0), STOP] for port in range(3)])
        hall = Hall(program, [stock], ["code"])
        picks = ((0, 0),) * 3 + ((1, 0),) * 3 + ((2, 0),) * 3 + ((2, 0), (1, 0), (0, 0), (1, 0), (0, 0))
        carried = self.check(hall, [("table", make_table(stock))], (picks, ()))
        self.assertEqual([event[3] for event in run_plan(target_of(hall, [1]), carried, []).trace if event[2] == "end"], [2, 1, 1])
        at = carried[0].index((2, 0), carried[0].index((2, 0)) + 1)
        # All three takes stand directly before the end of the count.
        self.assertEqual(sorted(carried[0][at - 2:at + 1]), [(0, 0), (1, 0), (2, 0)])

    def test_random_plans(self):
        generator = random.Random(421)
        pool = stocks_of_all_grades(422, 30) + [stairs(2), stairs(3), stairs(5), tally([0, 1]), fused_tally(), lasting_stairs()]
        met = {}
        for _ in range(500):
            stocks = [generator.choice(pool) for _ in range(generator.randint(1, 2))]
            hall = calling_hall(generator, stocks, [generator.choice(["code", "code", "plain"]) for _ in stocks])
            plan = random_plan(generator, hall, first_position(hall), generator.randint(5, 25))
            throws = plan_throws(plan)
            if throws < 7:
                papers = [paper_for(generator, stock, throws) if way == "code" else None for stock, way in zip(stocks, hall.ways)]
                self.check(hall, papers, plan)
                for paper in papers:
                    key = (min(2, throws), None if paper is None else paper[0])
                    met[key] = met.get(key, 0) + 1
        self.assertEqual(len(met), 9)
        self.assertGreater(min(met.values()), 10)

    def test_papers_of_others(self):
        """Tables with pairs that are no members of fronts, ladders in another order, with more nodes and some twice."""
        generator = random.Random(423)
        done = [0, 0]
        for stock in stocks_of_all_grades(424, 45):
            if grade_of(stock) == 0:
                continue
            hall = calling_hall(generator, [stock], ["code"])
            pairs = models.all_sets(stock, (first_state(stock.code), (stock.plain.first, ((),) * len(stock.code.ports))))
            live = shuffled(generator, [pair for pair in pairs if dead_at(stock, pair) is None])
            for _ in range(12):
                plan = random_plan(generator, hall, first_position(hall), generator.randint(3, 12))
                if plan_throws(plan) > 3:
                    continue
                if grade_of(stock) is None:
                    table = (*live, *live[:2])
                    self.assertTrue(judge_table(stock, table))
                    self.check(hall, [("table", table)], plan)
                    done[0] += 1
                elif plan_throws(plan) < grade_of(stock):
                    ladder = make_ladder(stock, grade_of(stock) - 1)
                    ladder = tuple(tuple(shuffled(generator, nodes + nodes[:1])) for nodes in ladder)
                    self.assertTrue(judge_ladder(stock, ladder))
                    self.check(hall, [("ladder", ladder)], plan)
                    done[1] += 1
        self.assertGreater(min(done), 10)

    def test_throws_up_to_the_height(self):
        """A ladder of height h serves plans with h throws, and none with one more."""
        for grade in (1, 2, 4):
            stock = stairs(grade)
            for throws in range(grade):
                ladder = ("ladder", make_ladder(stock, throws))
                call, end = ((0, 0),) * 2, EMPTY
                plan = (call, ())
                for _ in range(throws):
                    plan = (call + ((0, 0),), (plan, end))
                thread = [line for _ in range(throws) for line in (("call", 1, 0, 0, 0), ("throw", 0, 2))]
                hall = Hall(Program(0, 1, [thread + [("call", 1, 0, 0, 0), ("throw", 0, 2), STOP]]), [stock], ["code"])
                self.check(hall, [ladder], plan)
                with self.assertRaises(Unfit):
                    carry(hall, [ladder], self.longer(plan))

    def longer(self, plan):
        """The plan with one more throw at the end of its longest path."""
        picks, branches = plan
        if branches:
            return (picks, (self.longer(branches[0]), *branches[1:]))
        return (picks + ((0, 0),), (EMPTY, EMPTY))

    def test_long_rows(self):
        stock = lasting_stairs()
        hall = Hall(Program(0, 1, [[("set", 0, 1), ("call", 1, 0, 0, 0), ("add", 0, 0, 2), ("jump", 1)]]), [stock], ["code"])
        picks = ((0, 0),) + ((0, 0), (0, 0), (0, 0), (0, 0), (0, 0)) * 700
        for papers in ([("table", make_table(stock))], [("ladder", make_ladder(stock, 0))]):
            carried = carry(hall, papers, (picks, ()))
            self.assertEqual(run_plan(target_of(hall, papers), carried, []).trace, run_plan(hall, (picks, ()), []).trace)

    def test_many_plans_on_a_path(self):
        stock = lasting_stairs()
        for many in (240, 900):
            hall = Hall(Program(0, 1, [[("throw", 0, 2)] * many + [("call", 0, 0, 0, 0), STOP]]), [stock], ["code"])
            for papers in ([("table", make_table(stock))], [("ladder", make_ladder(stock, many))]):
                carried = carry(hall, papers, deep_plan(many))
                self.assertEqual(plan_throws(carried), many)
                self.assertEqual(run_plan(target_of(hall, papers), carried, [1] * many).sides, (1,) * many)

    def test_arguments_stay(self):
        hall = Hall(ONE_CALL, [stairs(1)], ["code"])
        papers = [("ladder", make_ladder(stairs(1), 0))]
        carry(hall, papers, EMPTY)
        self.assertEqual((papers, hall.ways), ([("ladder", make_ladder(stairs(1), 0))], ("code",)))


class Refused(unittest.TestCase):
    def refuse(self, error, *told):
        with self.assertRaises(error) as caught:
            carry(*told)
        self.assertIs(type(caught.exception), error)

    def setUp(self):
        self.hall = Hall(ONE_CALL, [stairs(2)], ["code"])
        self.ladder = ("ladder", make_ladder(stairs(2), 1))

    def test_plans_that_do_not_fit(self):
        for papers in ([self.ladder], [None], [], [("table", ())], [self.ladder] * 2):
            for plan in ((((0, 1),), ()), (((0, 0),) * 4, ()), ((), (EMPTY,)), (((1, 0),), ())):
                self.refuse(BadPlan, self.hall, papers, plan)
        # The plan fits the target, but not the hall.
        self.refuse(BadPlan, self.hall, [self.ladder], (((0, 0), (0, 1), (0, 0)), ()))

    def test_the_number_of_papers(self):
        for papers in ([], [None] * 2, [self.ladder] * 2, ()):
            self.refuse(Unfit, self.hall, papers, EMPTY)
        self.refuse(Unfit, Hall(Program(0, 0, [[STOP]]), [], []), [None], EMPTY)

    def test_papers_for_plain_objects(self):
        hall = Hall(ONE_CALL, [stairs(2)], ["plain"])
        self.refuse(Unfit, hall, [self.ladder], EMPTY)
        two = Hall(Program(0, 2, [[STOP]]), [stairs(2)] * 2, ["code", "plain"])
        self.refuse(Unfit, two, [self.ladder, self.ladder], EMPTY)
        self.assertEqual(carry(two, [self.ladder, None], EMPTY), EMPTY)

    def test_papers_that_are_not_accepted(self):
        table = make_table(lasting_stairs())
        ladder = self.ladder[1]
        for paper in (("table", ()), ("table", table), ("ladder", ()), ("ladder", ((),)), ("ladder", make_ladder(stairs(3), 1)),
                      ("ladder", ((), ladder[1])), ("ladder", (ladder[0], ())), ("ladder", ladder[::-1] + ladder)):
            self.refuse(Unfit, self.hall, [paper], EMPTY)
        lasting = Hall(ONE_CALL, [lasting_stairs()], ["code"])
        self.assertEqual(carry(lasting, [("table", table)], EMPTY), EMPTY)
        for at in range(len(table)):
            self.refuse(Unfit, lasting, [("table", table[:at] + table[at + 1:])], EMPTY)

    def test_the_second_paper_is_asked_too(self):
        hall = Hall(Program(0, 2, [[STOP]]), [stairs(2), lasting_stairs()], ["code", "code"])
        table = ("table", make_table(lasting_stairs()))
        self.assertEqual(carry(hall, [self.ladder, table], EMPTY), EMPTY)
        self.refuse(Unfit, hall, [self.ladder, ("table", table[1][1:])], EMPTY)
        self.refuse(Unfit, hall, [table, self.ladder], EMPTY)

    def test_throws_above_the_height_of_one_ladder(self):
        stocks = [stairs(3), lasting_stairs()]
        hall = Hall(Program(0, 2, [[("throw", 0, 2), ("throw", 0, 2), STOP]]), stocks, ["code", "code"])
        table = ("table", make_table(stocks[1]))
        told = [("ladder", make_ladder(stocks[0], height)) for height in range(3)]
        low = [("ladder", make_ladder(stocks[1], height)) for height in range(3)]
        for throws in range(3):
            for height in range(3):
                for papers in ([told[height], table], [told[height], None], [told[2], low[height]], [None, low[height]]):
                    if throws <= height:
                        self.assertEqual(carry(hall, papers, deep_plan(throws)), deep_plan(throws))
                    else:
                        self.refuse(Unfit, hall, papers, deep_plan(throws))


class WhatIsKept(unittest.TestCase):
    def test_best_odds_do_not_fall(self):
        """While fewer coins can fall than the grade, each way that becomes plain has at least the odds before."""
        generator = random.Random(425)
        stocks = [stairs(2), tally([0, 1]), lasting_stairs(), fused_tally(), stairs(4)]
        done = 0
        while done < 25:
            chosen = [generator.choice(stocks) for _ in range(2)]
            hall = calling_hall(generator, chosen, ["code", "code"])
            grades = [grade for grade in map(grade_of, chosen) if grade is not None]
            if most_throws(hall.program) < min(grades, default=3):
                goal = [generator.choice([0, 1]) for _ in range(generator.randint(1, 2))]
                odds = [best_odds(Hall(hall.program, chosen, ways), goal) for ways in
                        (["code", "code"], ["code", "plain"], ["plain", "plain"])]
                self.assertTrue(odds[0].at_most(odds[1]) and odds[1].at_most(odds[2]))
                done += 1

    def test_best_plans_are_carried(self):
        stock = stairs(3)
        program, _ = parting(stairs(2), make_script(stairs(2)))
        code, plain = Hall(program, [stock], ["code"]), Hall(program, [stock], ["plain"])
        self.assertEqual(most_throws(program), 2)
        plan = best_plan(code, [1])
        carried = carry(code, [("ladder", make_ladder(stock, 2))], plan)
        self.assertTrue(fits(plain, carried))
        self.assertEqual((fraction(best_odds(code, [1])), fraction(best_odds(plain, [1]))), (1, 1))

    def test_as_many_throws_as_the_grade(self):
        for stock in (stairs(1), stairs(3), tally([1, 0]), broken_tally()):
            grade = grade_of(stock)
            program, plan = parting(stock, make_script(stock))
            self.assertLessEqual(most_throws(program), grade)
            self.assertEqual(best_odds(Hall(program, [stock], ["code"]), (1,)), Share(1))
            self.assertFalse(Share(1).at_most(best_odds(Hall(program, [stock], ["plain"]), (1,))))
            if grade:
                with self.assertRaises(Unfit):
                    carry(Hall(program, [stock], ["code"]), [("ladder", make_ladder(stock, grade - 1))], plan)
