import random
import unittest
from fractions import Fraction

from oddskept.errors import BadPlan
from oddskept.hall import Hall, first_position
from oddskept.odds import plan_odds
from oddskept.plans import outcomes
from oddskept.progbook import Program
from oddskept.shares import Share
from tests.test_plans import EMPTY, HALL, PLAN, REST, STOP, all_sides, dice, random_hall, random_plan


class Odds(unittest.TestCase):
    def test_example(self):
        self.assertEqual([str(plan_odds(HALL, PLAN, goal)) for goal in ([1], [0], [1, 1], (1,))], ["1/1", "0/1", "0/1", "1/1"])
        self.assertIs(type(plan_odds(HALL, PLAN, [1])), Share)

    def test_a_scheduler_that_does_not_look(self):
        late = (((0, 0),), ((REST, ()), (REST, ())))
        self.assertEqual([str(plan_odds(HALL, late, [goal])) for goal in (0, 1)], ["1/2", "1/2"])
        early = (((1, 0), (1, 0), (0, 0)), ((REST, ()), (REST, ())))
        self.assertEqual([str(plan_odds(HALL, early, [goal])) for goal in (0, 1)], ["1/2", "1/2"])

    def test_nothing_printed(self):
        self.assertEqual(plan_odds(HALL, EMPTY, [1]), Share(0))
        self.assertEqual(plan_odds(HALL, (((1, 0),), ()), [0]), Share(0))

    def test_what_follows_does_not_matter(self):
        hall, plan = dice(2, 3, 5), all_sides([2, 3, 5])
        told = [([0], "1/2"), ([1], "1/2"), ([2], "0/1"), ([0, 2], "1/6"), ([1, 2, 4], "1/30"), ([1, 2, 5], "0/1"), ([1, 2, 4, 0], "0/1"),
                ([2, 0, 0], "0/1"), ([999], "0/1"), ((1, 0), "1/6")]
        for goal, odds in told:
            self.assertEqual(str(plan_odds(hall, plan, goal)), odds)

    def test_goals_of_one_and_of_eight(self):
        lines = [line for number in (0, 999, 1, 2, 3, 4, 5, 6) for line in (("set", 0, number), ("print", 0))]
        hall = Hall(Program(0, 0, [lines + [("throw", 0, 2), ("print", 0), STOP]]), [], [])
        end = (((0, 0),), ())
        plan = (((0, 0),) * 17, (end, end))
        goal = [0, 999, 1, 2, 3, 4, 5, 6]
        self.assertEqual([str(plan_odds(hall, plan, goal[:many])) for many in range(1, 9)], ["1/1"] * 8)
        for at in range(8):
            wrong = goal[:at] + [7] + goal[at + 1:]
            self.assertEqual(plan_odds(hall, plan, wrong), Share(0))
        self.assertEqual(str(plan_odds(hall, plan, goal + [1])), "1/2")
        self.assertEqual(plan_odds(hall, (((0, 0),) * 15, ()), goal), Share(0))
        self.assertEqual(plan_odds(hall, (((0, 0),) * 16, ()), goal), Share(1))

    def test_plans_that_do_not_fit(self):
        for plan in ((REST, ()), ((), (EMPTY,)), (PLAN[0], (EMPTY,))):
            with self.assertRaises(BadPlan):
                plan_odds(HALL, plan, [1])

    def test_the_goal_stays(self):
        goal = [1]
        plan_odds(HALL, PLAN, goal)
        self.assertEqual(goal, [1])

    def test_random_plans(self):
        generator = random.Random(141)
        met = {}
        for _ in range(100):
            hall = random_hall(generator)
            plan = random_plan(generator, hall, first_position(hall), 18)
            runs = list(outcomes(hall, plan))
            prints = generator.choice(runs).prints or (0,)
            for goal in (prints[:1], prints[:2], prints[:8], (5,), prints[:1] + (6,)):
                wanted = sum(Fraction(run.chance.top, run.chance.bottom) for run in runs if run.prints[:len(goal)] == goal)
                told = plan_odds(hall, plan, list(goal))
                self.assertEqual((told.top, told.bottom), (Fraction(wanted).numerator, Fraction(wanted).denominator))
                met[str(told)] = True
        self.assertGreater(len(met), 5)
