import random
import unittest
from fractions import Fraction

from oddskept.errors import BadPlan
from oddskept.families import stairs, tally
from oddskept.hall import Hall, first_position, picks_at
from oddskept.odds import plan_odds
from oddskept.picking import coin_sides, play_pick
from oddskept.plans import Run, fits, outcomes, plan_throws, run_plan
from oddskept.progbook import Program, most_throws
from oddskept.shares import Share
from tests.helpers import is_exact

STOP = ("stop",)
EMPTY = ((), ())

# The example of the interface: the scheduler sees the coin before thread 1 leaves its number.
THREAD = [("throw", 0, 2), ("look", 1, 0), ("same", 2, 0, 1), ("print", 2), STOP]
HALL = Hall(Program(1, 0, [THREAD, [("set", 0, 1), ("leave", 0, 0), STOP]]), [], [])
REST = ((0, 0), (0, 0), (0, 0))
PLAN = (((0, 0),), ((REST, ()), (((1, 0), (1, 0)) + REST, ())))


def dice(*sides, after=()):
    """A hall with one thread that throws coins with so many sides, one after the other, and prints each side."""
    lines = [line for many in sides for line in (("throw", 0, many), ("print", 0))]
    return Hall(Program(0, 0, [lines + list(after) + [STOP]]), [], [])


def all_sides(sides, at=0):
    """The plan that plays all of such a hall."""
    if at == len(sides):
        return (((0, 0),) if at else (), ())
    return ((((0, 0),) if at else ()) + ((0, 0),), (all_sides(sides, at + 1),) * sides[at])


def random_plan(generator, hall, position, many):
    """A plan of random picks that fits from a position on, with at most so many picks on a path."""
    picks = []
    while many > 0 and picks_at(hall, position):
        pick = generator.choice(picks_at(hall, position))
        sides = coin_sides(hall, position, pick)
        picks.append(pick)
        many -= 1
        if sides:
            return (tuple(picks), tuple(random_plan(generator, hall, play_pick(hall, position, pick, side)[0], many - generator.randint(0, 3))
                                        for side in range(sides)))
        position, _ = play_pick(hall, position, pick)
    return (tuple(picks), ())


def random_hall(generator):
    """A hall with three threads, two of which call objects, over code or plain books."""
    words = [("set", 0, 5), ("add", 0, 0, 1), ("leave", 0, 0), ("look", 1, 0), ("send", 0, 1), ("fetch", 2, 1), ("print", 0), ("print", 2)]
    threads = []
    for number in range(3):
        told = generator.choices(words + [("call", 1, number, 0, 0)] * (4 if number < 2 else 0) + [("jump", 0, 7)]
                                 + [("throw", 0, 2), ("throw", 2, 3)], k=generator.randint(1, 5))
        if any(one[0] == "throw" for one in told):
            told = [one for one in told if one[0] != "jump"]
        threads.append(told + [STOP])
    return Hall(Program(2, 2, threads), [stairs(2), tally([0, 1])], [generator.choice(["code", "plain"]) for _ in range(2)])


def fitting(hall, plan, position=None):
    """Whether a plan fits, as point 38 words it."""
    position = first_position(hall) if position is None else position
    picks, branches = plan
    for at, pick in enumerate(picks):
        if pick not in picks_at(hall, position):
            return False
        sides = coin_sides(hall, position, pick)
        if sides:
            return at == len(picks) - 1 and len(branches) == sides and all(
                fitting(hall, branch, play_pick(hall, position, pick, side)[0]) for side, branch in enumerate(branches))
        position, _ = play_pick(hall, position, pick)
    return not branches


def played(hall, plan, tape):
    """The sides, the trace and the chance that a tape brings about."""
    position, trace, chance, sides_met = first_position(hall), [], Fraction(1), []
    picks, branches = plan
    while True:
        for pick in picks:
            sides = coin_sides(hall, position, pick)
            side = tape[len(sides_met)] if len(tape) > len(sides_met) else 0
            position, event = play_pick(hall, position, pick, side)
            if event is not None:
                trace.append(event)
            if sides:
                sides_met.append(side % sides)
                chance /= sides
        if not branches:
            return tuple(sides_met), tuple(trace), chance
        picks, branches = branches[sides_met[-1]]


def deep_plan(depth):
    """A plan with so many plans on its longest path, in each of which the first side ends."""
    plan = EMPTY
    for _ in range(depth):
        plan = (((0, 0),), (EMPTY, plan))
    return plan


class Throws(unittest.TestCase):
    def test_told(self):
        told = [(EMPTY, 0), ((((0, 0),) * 5, ()), 0), (PLAN, 1), (((), (EMPTY,)), 1), (((), (PLAN, EMPTY)), 2), (((), (EMPTY, PLAN, EMPTY)), 2),
                (((), (((), (PLAN,)), PLAN)), 3)]
        for plan, throws in told:
            self.assertEqual(plan_throws(plan), throws)
            self.assertIs(type(plan_throws(plan)), int)

    def test_deep_plans(self):
        self.assertEqual(plan_throws(deep_plan(3000)), 3000)


class Fits(unittest.TestCase):
    def test_example(self):
        run = run_plan(HALL, PLAN, [7])
        self.assertEqual([fits(HALL, PLAN), fits(HALL, (REST, ())), plan_throws(PLAN), str(run.chance), run.sides, run.prints, run.trace[2:4]],
                         [True, False, 1, "1/2", (1,), (1,), ((1, 1, "own", 1), (0, 1, "own", 1))])

    def test_the_empty_plan(self):
        for hall in (HALL, dice(2), Hall(Program(0, 0, [[STOP]]), [], []), Hall(Program(0, 1, [[STOP]]), [stairs(1)], ["code"])):
            self.assertIs(fits(hall, EMPTY), True)
            self.assertIs(fits(hall, ((), (EMPTY, EMPTY))), False)
            self.assertIs(fits(hall, ((), (EMPTY,))), False)

    def test_picks_that_are_not_there(self):
        hall = Hall(Program(1, 0, [[("fetch", 0, 0), STOP], [("set", 0, 1), ("send", 0, 0), STOP]]), [], [])
        for picks, wanted in ((((1, 0), (1, 0), (0, 0)), True), (((1, 0), (0, 0)), False), (((1, 1),), False), (((-1, 0),), False),
                              (((2, 0),), False), (((1, 0), (1, 0), (1, 0)), False), (((1, 0), (1, 0), (0, 0), (0, 0)), False),
                              (((1, -1),), False)):
            self.assertIs(fits(hall, (picks, ())), wanted)

    def test_plans_may_end_anywhere(self):
        hall = Hall(Program(0, 1, [[("call", 0, 0, 0, 1), ("print", 0), STOP]]), [stairs(1)], ["plain"])
        picks = ((0, 0), (0, 1), (0, 0), (0, 0))
        for many in range(5):
            self.assertTrue(fits(hall, (picks[:many], ())))
        self.assertFalse(fits(hall, (picks + ((0, 0),), ())))
        self.assertFalse(fits(hall, (((0, 0), (0, 2)), ())))

    def test_throws_come_last(self):
        hall = dice(2, 3)
        end = (((0, 0),), ())
        inner = (((0, 0), (0, 0)), (end, EMPTY, end))
        self.assertTrue(fits(hall, (((0, 0),), (inner, EMPTY))))
        self.assertTrue(fits(hall, (((0, 0),), (EMPTY, inner))))
        for plan in ((((0, 0), (0, 0)), ()), (((0, 0), (0, 0)), (EMPTY, EMPTY)), (((0, 0),), ()), (((0, 0),), (EMPTY,)),
                     (((0, 0),), (EMPTY,) * 3), (((0, 0),), (inner, (inner[0], (end, end)))), (((0, 0),), ((inner[0], ()), EMPTY)),
                     (((0, 0),), (EMPTY, (((0, 0),), (EMPTY,)))), (((0, 0),), (EMPTY, (((0, 0), (0, 0), (0, 0)), (EMPTY,) * 3)))):
            self.assertFalse(fits(hall, plan))

    def test_branches_begin_behind_their_side(self):
        # On side 1 alone the thread jumps over the print.
        hall = Hall(Program(0, 0, [[("throw", 0, 2), ("jump", 3, 0), ("print", 0), STOP]]), [], [])
        self.assertTrue(fits(hall, (((0, 0),), ((((0, 0), (0, 0)), ()), (((0, 0),), ())))))
        self.assertFalse(fits(hall, (((0, 0),), ((((0, 0),), ()), (((0, 0), (0, 0)), ())))))

    def test_the_fault_in_the_last_branch(self):
        hall = dice(60)
        self.assertTrue(fits(hall, (((0, 0),), (EMPTY,) * 60)))
        self.assertFalse(fits(hall, (((0, 0),), (EMPTY,) * 59)))
        self.assertFalse(fits(hall, (((0, 0),), (EMPTY,) * 61)))
        self.assertFalse(fits(hall, (((0, 0),), (EMPTY,) * 59 + ((((1, 0),), ()),))))

    def test_random_plans(self):
        generator = random.Random(121)
        found = [0, 0]
        for _ in range(150):
            hall = random_hall(generator)
            plan = random_plan(generator, hall, first_position(hall), 12)
            self.assertIs(fits(hall, plan), True)
            self.assertLessEqual(plan_throws(plan), most_throws(hall.program))
            for _ in range(6):
                picks, branches = plan
                at = generator.randint(0, len(picks))
                other = generator.choice([(picks[:at], branches), (picks[at:], branches), (picks, branches[1:]), (picks, branches * 2),
                                          (picks[:at] + ((generator.randrange(3), 0),) + picks[at:], branches), (picks, branches[::-1]),
                                          (picks[:at] + ((generator.randrange(3), generator.randrange(3)),) + picks[at + 1:], branches)])
                told = fits(hall, other)
                self.assertIs(told, fitting(hall, other))
                found[told] += 1
        self.assertGreater(min(found), 80)

    def test_long_and_deep_plans(self):
        hall = Hall(Program(0, 0, [[("jump", 0)]]), [], [])
        self.assertTrue(fits(hall, (((0, 0),) * 5000, ())))
        self.assertFalse(fits(hall, (((0, 0),) * 5000 + ((1, 0),), ())))
        coins = Hall(Program(0, 0, [[("throw", 0, 2)] * 2000 + [STOP]]), [], [])
        self.assertTrue(fits(coins, deep_plan(2000)))
        self.assertFalse(fits(coins, deep_plan(2001)))


class Runs(unittest.TestCase):
    def test_fields(self):
        trace = [[0, 0, "own", 5], (1, 2, "print", 7), (0, 1, "side", 1), (2, 0, "begin", 0), (0, 3, "print", 0), (2, 0, "end", 4), (1, 1, "side", 59)]
        run = Run(Share(1, 4), trace)
        self.assertEqual(run.chance, Share(1, 4))
        self.assertEqual(run.trace, tuple(tuple(event) for event in trace))
        self.assertEqual((run.prints, run.sides), ((7, 0), (1, 59)))
        self.assertTrue(is_exact((run.trace, run.prints, run.sides)))
        trace[0][3] = 9
        trace.clear()
        self.assertEqual((len(run.trace), run.trace[0]), (7, (0, 0, "own", 5)))
        run = Run(Share(-1, 3), ())
        self.assertEqual((run.trace, run.prints, run.sides, str(run.chance)), ((), (), (), "-1/3"))

    def test_tapes(self):
        hall, plan = dice(2, 3, 60), all_sides([2, 3, 60])
        told = [([], (0, 0, 0)), ((), (0, 0, 0)), ([1], (1, 0, 0)), ([1, 2, 59], (1, 2, 59)), ((3, 4, 61), (1, 1, 1)), ([-1, -1, -1], (1, 2, 59)),
                ([1, 2, 59, 77, 5], (1, 2, 59)), ([10 ** 40 + 1, -10 ** 40, 10 ** 40], (1, -10 ** 40 % 3, 10 ** 40 % 60))]
        for tape, sides in told:
            run = run_plan(hall, plan, tape)
            self.assertEqual((run.sides, run.prints), (sides, sides))
            self.assertEqual(run.chance, Share(1, 360))
            self.assertEqual(len(run.trace), 6)
            self.assertTrue(is_exact((run.trace, run.prints, run.sides)))

    def test_without_throws(self):
        run = run_plan(HALL, EMPTY, [1, 2, 3])
        self.assertEqual((run.chance, run.trace, run.prints, run.sides), (Share(1), (), (), ()))
        run = run_plan(HALL, (((1, 0), (1, 0)), ()), [])
        self.assertEqual((run.chance, run.trace), (Share(1), ((1, 0, "own", 1), (1, 1, "own", 1))))

    def test_steps_and_takes_have_no_events(self):
        program = Program(0, 1, [[("call", 0, 0, 0, 1), ("print", 0), STOP]])
        for way, picks in (("code", [(0, 0)] * 3), ("plain", [(0, 0), (0, 1), (0, 0), (0, 0)])):
            run = run_plan(Hall(program, [stairs(1)], [way]), (tuple(picks), ()), [])
            self.assertEqual(run.trace, ((0, 0, "begin", 0), (0, 0, "end", 0), (0, 1, "print", 0)))

    def test_plans_that_do_not_fit(self):
        for plan in ((REST, ()), (PLAN[0], (PLAN[1][0],)), (PLAN[0], (PLAN[1][0], (((0, 0),) * 4 + ((0, 0),), ()))), ((), (EMPTY,))):
            for tape in ([], [0], [1]):
                with self.assertRaises(BadPlan):
                    run_plan(HALL, plan, tape)
            with self.assertRaises(BadPlan):
                next(outcomes(HALL, plan))
            with self.assertRaises(BadPlan):
                plan_odds(HALL, plan, [1])

    def test_arguments_stay(self):
        tape = [1, 2]
        run_plan(dice(2, 3), all_sides([2, 3]), tape)
        self.assertEqual(tape, [1, 2])

    def test_random_plans(self):
        generator = random.Random(122)
        throws = 0
        for _ in range(120):
            hall = random_hall(generator)
            plan = random_plan(generator, hall, first_position(hall), 15)
            for tape in ([], [1] * 9, [generator.randrange(-99, 99) for _ in range(generator.randint(1, 6))]):
                run = run_plan(hall, plan, tape)
                sides, trace, chance = played(hall, plan, tape)
                self.assertEqual((run.sides, run.trace, Fraction(run.chance.top, run.chance.bottom)), (sides, trace, chance))
                self.assertEqual(run.prints, tuple(number for _, _, word, number in trace if word == "print"))
                throws += len(sides)
        self.assertGreater(throws, 100)


class Outcomes(unittest.TestCase):
    def test_example(self):
        told = list(outcomes(HALL, PLAN))
        self.assertEqual([(str(run.chance), run.sides, run.prints) for run in told], [("1/2", (0,), (1,)), ("1/2", (1,), (1,))])

    def test_without_throws(self):
        told = list(outcomes(HALL, EMPTY))
        self.assertEqual([(run.chance, run.trace) for run in told], [(Share(1), ())])

    def test_ascending(self):
        told = list(outcomes(dice(2, 3, 2), all_sides([2, 3, 2])))
        self.assertEqual([run.sides for run in told], [(one, two, three) for one in range(2) for two in range(3) for three in range(2)])
        self.assertTrue(all(run.chance == Share(1, 12) for run in told))

    def test_chances_of_unlike_paths(self):
        hall = dice(2, 3)
        told = list(outcomes(hall, (((0, 0),), (EMPTY, (((0, 0), (0, 0)), (EMPTY,) * 3)))))
        self.assertEqual([(run.sides, str(run.chance)) for run in told], [((0,), "1/2"), ((1, 0), "1/6"), ((1, 1), "1/6"), ((1, 2), "1/6")])

    def test_not_before_it_is_asked(self):
        generator = outcomes(HALL, (REST, ()))
        self.assertTrue(hasattr(generator, "__next__"))
        with self.assertRaises(BadPlan):
            next(generator)

    def test_one_after_the_other(self):
        # Equal branches may be one and the same tuple.
        generator = outcomes(dice(*[2] * 8), all_sides([2] * 8))
        self.assertEqual([next(generator).sides[-1] for _ in range(3)], [0, 1, 0])

    def test_deep_plans(self):
        hall = Hall(Program(0, 0, [[("throw", 0, 2)] * 300 + [STOP]]), [], [])
        told = list(outcomes(hall, deep_plan(300)))
        self.assertEqual(len(told), 301)
        self.assertEqual((told[299].sides, told[300].sides), ((1,) * 299 + (0,), (1,) * 300))
        self.assertEqual(told[300].chance, Share(1, 2 ** 300))
        self.assertEqual(run_plan(hall, deep_plan(300), [1] * 300).trace, told[300].trace)

    def test_random_plans(self):
        generator = random.Random(123)
        for _ in range(80):
            hall = random_hall(generator)
            plan = random_plan(generator, hall, first_position(hall), 15)
            told = list(outcomes(hall, plan))
            self.assertEqual([run.sides for run in told], sorted({run.sides for run in told}))
            total = Share(0)
            for run in told:
                total = total + run.chance
                again = run_plan(hall, plan, run.sides)
                self.assertEqual((again.chance, again.trace), (run.chance, run.trace))
            self.assertEqual(total, Share(1))
