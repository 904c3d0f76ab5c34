import random
import unittest
from fractions import Fraction

from oddskept.best import best_odds, best_plan
from oddskept.families import stairs, tally
from oddskept.hall import Hall, first_position
from oddskept.odds import plan_odds
from oddskept.picking import coin_sides, play_pick
from oddskept.plainbook import PlainBook
from oddskept.plans import fits, plan_throws
from oddskept.progbook import Program, most_throws
from oddskept.shares import Share
from oddskept.stocks import Stock
from tests import models
from tests.helpers import CELL, broken_tally, code_with, fused_tally, is_exact, lines, loose
from tests.test_plans import random_plan

STOP = ("stop",)
EMPTY = ((), ())
THREAD = [("throw", 0, 2), ("look", 1, 0), ("same", 2, 0, 1), ("print", 2), ("print", 0), STOP]
SEEN = Hall(Program(1, 0, [THREAD, [("set", 0, 1), ("leave", 0, 0), STOP]]), [], [])

# Deeds with a ring of local lines, with fused lines, and with a use that waits.
CELL_CODE = code_with(
    registers=2, rows=[[0]], parts=[("cell", CELL)], ports=[[("go", 0), ("go", 1), ("ring", 0)], [("get", 0), ("wait", 0)]],
    deeds=[("go", lines(("set", 1, 1), "+", ("swap", 0, 0, 0), ("copy", 1, 0), ("use", 0, 0, "put", 1), ("answer", 1))),
           ("ring", loose(("add", 0, 0, 0), ("jump", 0))),
           ("get", loose(("read", 0, 0, 0), ("jump", 3, 0), ("set", 0, 0), ("answer", 0))),
           ("wait", loose(("use", 0, 0, "wait", 1), ("answer", 0)))])
CELL_PLAIN = PlainBook(2, 0, [("go", 0, 0, 0, 0), ("go", 0, 1, 1, 0), ("go", 0, 1, 0, 1), ("go", 1, 0, 0, 1), ("go", 1, 1, 1, 1),
                              ("get", 0, 0, 0, 0), ("get", 1, 0, 1, 1), ("get", 1, 0, 0, 0), ("wait", 1, 0, 0, 1)])
CELLS = Stock(CELL_CODE, CELL_PLAIN)

WORDS = [("set", 0, 5), ("set", 1, 0), ("set", 0, 1), ("add", 0, 0, 1), ("less", 1, 0, 2), ("leave", 0, 0), ("look", 1, 0), ("send", 0, 1),
         ("fetch", 2, 1), ("send", 0, 2), ("fetch", 0, 2), ("print", 0), ("print", 2), ("print", 1)]


def some_hall(generator):
    """A hall of two or three threads: computing, mail, rings, throws, and calls of code or plain objects."""
    stocks = [generator.choice([stairs(2), CELLS, tally([0, 1])]) for _ in range(generator.randint(0, 2))]
    threads = []
    for number in range(generator.randint(2, 3)):
        calls = [("call", generator.randrange(2), one, number, generator.randrange(2)) for one, stock in enumerate(stocks)
                 if number < len(stock.code.ports)]
        told = generator.choices(WORDS + calls * 4, k=generator.randint(1, 4))
        if generator.random() < 0.6:
            told.insert(generator.randint(0, len(told)), ("throw", generator.randrange(3), generator.choice([2, 2, 3, 4, 5])))
            if generator.random() < 0.5:
                told.insert(generator.randint(0, len(told)), ("jump", len(told) + 1, generator.randrange(3)))
            told.append(STOP)
        else:
            told.append(generator.choice([STOP, ("jump", generator.randint(0, len(told)))]))
        threads.append(told)
    return Hall(Program(3, len(stocks), threads), stocks, [generator.choice(["code", "plain"]) for _ in stocks])


def small_halls(seed, many, most=900):
    """Halls with few reached standings, each with a goal, and the model's odds from all standings."""
    generator = random.Random(seed)
    while many:
        hall = some_hall(generator)
        goal = [generator.choice([0, 1, 5, 5]) for _ in range(generator.randint(1, 3))]
        odds = some_odds(hall, goal, most)
        if odds is not None and (odds[first_position(hall), 0] or generator.random() < 0.1):
            many -= 1
            yield hall, goal, odds


def some_odds(hall, goal, most):
    """What the model tells of a hall, None if there is too much of it."""
    start = (first_position(hall), 0)
    found = {start: True}
    waiting = [start]
    for standing in waiting:
        for _, behind in models.standings_from(hall, goal, standing):
            for one in behind:
                if one not in found:
                    found[one] = True
                    waiting.append(one)
        if len(waiting) > most:
            return None
    return models.best_odds(hall, goal)


def fraction(share):
    return Fraction(share.top, share.bottom)


class Odds(unittest.TestCase):
    def check(self, hall, goal, odds=None):
        """The plan fits, has the best odds and keeps the rules; the best odds are those that are told."""
        told = best_odds(hall, goal)
        self.assertIs(type(told), Share)
        plan = best_plan(hall, goal)
        self.assertTrue(is_exact(plan))
        self.assertTrue(fits(hall, plan))
        self.assertEqual(plan_odds(hall, plan, goal), told)
        self.keeps_the_rules(hall, tuple(goal), plan, first_position(hall), 0)
        if odds is not None:
            self.assertEqual(str(told), odds)
        return plan

    def keeps_the_rules(self, hall, goal, plan, position, count):
        """No pick is made once the goal is won or lost, and no standing occurs twice in one plan."""
        picks, branches = plan
        met = [(position, count)]
        for pick in picks:
            self.assertLess(count, len(goal))
            if coin_sides(hall, position, pick):
                for side, branch in enumerate(branches):
                    self.keeps_the_rules(hall, goal, branch, play_pick(hall, position, pick, side)[0], count)
                break
            position, event = play_pick(hall, position, pick)
            if event is not None and event[2] == "print":
                # A plan that prints another number could not have had any odds there.
                self.assertEqual(event[3], goal[count])
                count += 1
            met.append((position, count))
        self.assertEqual(len(set(met)), len(met))

    def test_example(self):
        told = [([1], "1/1"), ([0], "1/1"), ([1, 1], "1/2"), ([2], "0/1"), ((1, 0), "1/2"), ([1, 0, 0], "0/1")]
        for goal, odds in told:
            self.check(SEEN, goal, odds)
        self.assertEqual(best_plan(SEEN, [2]), EMPTY)

    def test_coins_that_nobody_sees_coming(self):
        # Thread 1 leaves its number before the coin falls.
        thread = [("fetch", 3, 1), *THREAD[:1], ("fetch", 1, 0), *THREAD[2:]]
        hall = Hall(Program(2, 0, [thread, [("set", 0, 1), ("send", 0, 0), ("send", 0, 1), STOP]]), [], [])
        for goal, odds in (([1], "1/2"), ([0], "1/2"), ([1, 1], "1/2"), ([0, 0], "1/2"), ([0, 1], "0/1")):
            self.check(hall, goal, odds)

    def test_goals_of_one_and_of_eight(self):
        goal = [0, 999, 1, 2, 3, 4, 5, 6]
        told = [line for number in goal for line in (("set", 0, number), ("print", 0))]
        hall = Hall(Program(0, 0, [told + [("throw", 0, 3), ("print", 0), STOP]]), [], [])
        for many in range(1, 9):
            self.assertEqual(self.check(hall, goal[:many], "1/1"), (((0, 0),) * (2 * many), ()))
            for at in range(many):
                self.check(hall, goal[:at] + [7] + goal[at + 1:many], "0/1")
        self.check(hall, tuple(goal), "1/1")
        self.check(hall, goal + [2], "1/3")

    def test_nothing_to_do(self):
        for hall in (Hall(Program(0, 0, [[STOP]]), [], []), Hall(Program(0, 2, [[STOP]]), [stairs(1)] * 2, ["code", "plain"]),
                     Hall(Program(1, 0, [[("fetch", 0, 0), ("print", 1), STOP]]), [], [])):
            self.assertEqual(self.check(hall, [0], "0/1"), EMPTY)

    def test_several_threads_print(self):
        hall = Hall(Program(0, 0, [[("set", 0, 1), ("print", 0), STOP], [("set", 0, 2), ("print", 0), STOP], [("print", 0), STOP]]), [], [])
        for goal, odds in (([1, 2], "1/1"), ([2, 1], "1/1"), ([2, 0, 1], "1/1"), ([1, 1], "0/1"), ([0, 1, 2, 0], "0/1")):
            self.check(hall, goal, odds)

    def test_no_throw_where_none_is_needed(self):
        hall = Hall(Program(0, 0, [[("throw", 0, 2), ("print", 0), STOP], [("print", 0), STOP]]), [], [])
        self.assertEqual(plan_throws(self.check(hall, [0], "1/1")), 0)
        self.assertEqual(plan_throws(self.check(hall, [0, 0], "1/2")), 1)
        self.check(hall, [1], "1/2")
        self.check(hall, [1, 0], "1/2")
        self.check(hall, [0, 1], "1/2")

    def test_sides(self):
        for sides in (2, 3, 59, 60):
            hall = Hall(Program(0, 0, [[("throw", 0, sides), ("print", 0), STOP]]), [], [])
            for goal in (0, sides - 1):
                self.check(hall, [goal], f"1/{sides}")
            self.check(hall, [sides], "0/1")

    def test_the_best_of_two_coins(self):
        hall = Hall(Program(0, 0, [[("throw", 0, 3), ("print", 0), STOP], [("throw", 0, 2), ("print", 0), STOP]]), [], [])
        # First the coin with two sides; if it fails, the other one.
        self.check(hall, [1], "2/3")
        self.check(hall, [2], "1/3")
        self.check(hall, [1, 2], "1/6")
        self.check(hall, [2, 1], "1/6")
        self.check(hall, [1, 1], "1/6")

    def test_many_throws(self):
        for many in (1, 239, 240):
            told = []
            for number in range(many):
                told += [("throw", 0, 2), ("jump", 3 * number + 3, 0), STOP]
            hall = Hall(Program(0, 0, [told + [("print", 0), STOP]]), [], [])
            self.assertEqual(most_throws(hall.program), many)
            plan = self.check(hall, [1], f"1/{2 ** many}")
            self.assertEqual(plan_throws(plan), many)

    def test_many_sides_and_throws(self):
        told = []
        for number in range(100):
            told += [("throw", 0, 60), ("jump", 3 * number + 3, 0), STOP]
        hall = Hall(Program(0, 0, [told + [("set", 0, 7), ("print", 0), STOP]]), [], [])
        self.assertEqual(fraction(best_odds(hall, [7])), Fraction(59, 60) ** 100)

    def test_throws_on_both_ways(self):
        # Behind the first coin one way has a further throw and the other one none.
        thread = [("throw", 0, 2), ("jump", 4, 0), ("throw", 1, 2), ("jump", 5), ("set", 1, 1), ("print", 1), STOP]
        hall = Hall(Program(0, 0, [thread]), [], [])
        self.check(hall, [1], "3/4")
        self.check(hall, [0], "1/4")

    def test_rings(self):
        printing = [("set", 0, 3), ("print", 0), STOP]
        stays = [("jump", 0)]
        round_about = [("set", 0, 1), ("add", 0, 0, 0), ("jump", 0)]
        calling = [("call", 0, 0, 0, 0), ("jump", 0)]
        sends = [("set", 0, 1), ("send", 0, 0), ("jump", 1)]
        fetches = [("fetch", 0, 0), ("jump", 0)]
        threads = [stays, round_about, calling, sends, fetches]
        for ways in (["code"], ["plain"]):
            self.check(Hall(Program(1, 1, threads + [printing]), [stairs(1)], ways), [3], "1/1")
            self.check(Hall(Program(1, 1, [printing] + threads), [stairs(1)], ways), [3], "1/1")
            self.check(Hall(Program(1, 1, threads), [stairs(1)], ways), [3], "0/1")
        # A call that never comes to its answer.
        ring = Stock(CELL_CODE, CELL_PLAIN)
        hall = Hall(Program(0, 1, [[("set", 0, 2), ("call", 0, 0, 0, 0), ("print", 0), STOP], printing]), [ring], ["code"])
        self.check(hall, [3], "1/1")
        self.check(hall, [2], "0/1")

    def test_rings_that_end(self):
        # Thread 0 fetches until it has met a 2.
        thread = [("fetch", 0, 0), ("set", 1, 2), ("same", 2, 0, 1), ("jump", 5, 2), ("jump", 0), ("print", 0), STOP]
        other = [("set", 0, 1), ("send", 0, 0), ("send", 0, 0), ("set", 0, 2), ("send", 0, 0), STOP]
        self.check(Hall(Program(1, 0, [thread, other]), [], []), [2], "1/1")
        self.check(Hall(Program(1, 0, [other, thread]), [], []), [2], "1/1")

    def test_threads_that_do_not_matter(self):
        """What has no effect on a print is not gone through, however much there is of it."""
        counts = [("set", 1, 1), ("add", 0, 0, 1), ("leave", 0, 0), ("jump", 1)]
        sends = [("set", 1, 1), ("add", 0, 0, 1), ("send", 1, 1), ("call", 2, 0, 0, 0), ("jump", 1)]
        fetches = [("fetch", 0, 1), ("throw", 1, 60), ("leave", 0, 2), ("call", 2, 0, 1, 0), STOP]
        prints = [("throw", 0, 2), ("call", 1, 1, 0, 0), ("print", 0), ("leave", 0, 0), STOP]
        for ways in (["code", "code"], ["plain", "code"], ["plain", "plain"]):
            hall = Hall(Program(3, 2, [counts, sends, prints, counts, fetches]), [tally([0, 1]), stairs(1)], ways)
            self.check(hall, [1], "1/2")
        # Here they do: the number that is looked at decides what is printed.
        changes = [("set", 0, 5), ("leave", 0, 0), ("set", 0, 7), ("leave", 0, 0), ("jump", 0)]
        hall = Hall(Program(1, 0, [changes, [("look", 0, 0), ("print", 0), ("look", 0, 0), ("print", 0), STOP]]), [], [])
        for goal, odds in (([0], "1/1"), ([7], "1/1"), ([7, 0], "0/1"), ([0, 7], "1/1"), ([7, 5], "1/1"), ([5, 5], "1/1"), ([6], "0/1")):
            self.check(hall, goal, odds)

    def test_a_chain_of_effects(self):
        """The first thread has an effect on the last one by way of an object and two mail cells."""
        first = [("call", 0, 0, 0, 0), STOP]
        second = [("call", 0, 0, 2, 0), ("send", 0, 0), STOP]
        third = [("fetch", 0, 0), ("leave", 0, 1), STOP]
        last = [("look", 0, 1), ("print", 0), STOP]
        for way in ("code", "plain"):
            hall = Hall(Program(2, 1, [first, second, third, last]), [tally([0, 1])], [way])
            for goal, odds in (([0], "1/1"), ([1], "1/1"), ([2], "0/1")):
                self.check(hall, goal, odds)
            self.check(Hall(Program(2, 1, [second, third, last]), [tally([0, 1])], [way]), [1], "0/1")

    def test_mail_that_others_look_at(self):
        """A number must not be fetched before it has been looked at, or overwritten."""
        sends = [("set", 0, 1), ("send", 0, 0), STOP]
        fetches = [("fetch", 0, 0), ("print", 0), STOP]
        looks = [("look", 0, 0), ("print", 0), STOP]
        leaves = [("set", 0, 4), ("leave", 0, 0), STOP]
        hall = Hall(Program(1, 0, [sends, fetches, looks]), [], [])
        for goal in ([1, 1], [0, 1], [1, 0]):
            self.check(hall, goal, "1/1")
        self.check(hall, [0, 0], "0/1")
        hall = Hall(Program(1, 0, [sends, fetches, leaves]), [], [])
        for goal, odds in (([4], "1/1"), ([1], "1/1"), ([0], "0/1")):
            self.check(hall, goal, odds)
        hall = Hall(Program(1, 0, [sends, fetches, fetches]), [], [])
        self.check(hall, [1, 1], "0/1")

    def test_objects_by_code_and_by_plain_book(self):
        # Two flags are raised while a third thread counts.
        count = [("call", 0, 0, 2, 0), ("print", 0), STOP]
        raises = [[("call", 0, 0, port, 0), ("print", 0), STOP] for port in (0, 1)]
        for stock, way, odds in ((tally([0, 1]), "code", "1/1"), (tally([0, 1]), "plain", "1/1"), (fused_tally(), "code", "1/1")):
            hall = Hall(Program(0, 1, [*raises, count]), [stock], [way])
            for goal in ([0], [1], [2], [1, 1, 2], [1, 1, 0], [0, 1, 1]):
                self.check(hall, goal, odds)
            self.check(hall, [2, 1, 1], "1/1")
        # The code that counts the first flag twice can tell 2 when one flag is up.
        one = Program(0, 1, [raises[0], count])
        self.check(Hall(one, [broken_tally()], ["code"]), [2], "1/1")
        self.check(Hall(one, [broken_tally()], ["plain"]), [2], "0/1")

    def test_choices_of_plain_books(self):
        # Behind pick a coin tells what is called, hit or down; 1 is printed if the answer is that of the code.
        rest = [("jump", 7, 1), ("set", 0, 1), ("call", 3, 0, 0, 0), ("print", 3), STOP,
                ("set", 0, 2), ("call", 3, 0, 0, 0), ("same", 4, 3, 5), ("print", 4), STOP]
        late = Program(0, 1, [[("call", 2, 0, 0, 0), ("throw", 1, 2), *rest]])
        early = Program(0, 1, [[("throw", 1, 2), ("call", 2, 0, 0, 0), *rest]])
        for program, way, odds in ((late, "code", "1/1"), (late, "plain", "1/2"), (early, "code", "1/1"), (early, "plain", "1/1")):
            self.check(Hall(program, [stairs(1)], [way]), [1], odds)
        self.check(Hall(late, [stairs(1)], ["plain"]), [0], "1/2")
        self.check(Hall(late, [stairs(1)], ["code"]), [0], "0/1")

    def test_random_halls(self):
        met = {}
        for hall, goal, odds in small_halls(401, 260):
            self.check(hall, goal)
            told = fraction(best_odds(hall, goal))
            self.assertEqual(told, odds[first_position(hall), 0])
            met[told] = True
        self.assertGreater(len(met), 6)

    def test_arguments_stay_and_plans_are_alike(self):
        goal = [1, 1]
        best_odds(SEEN, goal)
        best_plan(SEEN, goal)
        self.assertEqual(goal, [1, 1])
        self.assertEqual(best_plan(SEEN, goal), best_plan(SEEN, (1, 1)))

    def test_no_plan_is_better(self):
        """The runs of any plan print the goal with at most these odds."""
        generator = random.Random(402)
        for hall, goal, _ in small_halls(403, 60):
            for _ in range(10):
                plan = random_plan(generator, hall, first_position(hall), generator.randint(1, 20))
                self.assertTrue(plan_odds(hall, plan, goal).at_most(best_odds(hall, goal)))
