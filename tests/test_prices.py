import random
import unittest

from oddskept.best import best_odds
from oddskept.families import stairs
from oddskept.hall import Hall, first_position
from oddskept.odds import plan_odds
from oddskept.parting import parting
from oddskept.picking import play_pick
from oddskept.prices import judge_prices, make_prices
from oddskept.progbook import Program
from oddskept.scripts import make_script
from oddskept.shares import Share
from tests import models
from tests.helpers import is_exact, shuffled
from tests.test_best import SEEN, STOP, fraction, small_halls
from tests.test_plans import random_plan

HALF = Share(1, 2)
COIN = Hall(Program(0, 0, [[("throw", 0, 2), ("print", 0), STOP]]), [], [])
START = first_position(COIN)
SIDES = [play_pick(COIN, START, (0, 0), side)[0] for side in (0, 1)]
PRINTED = [play_pick(COIN, position, (0, 0))[0] for position in SIDES]


def accepted(hall, goal, prices, share):
    """Whether a price list is accepted, as point 43 words it."""
    standings = [(position, count) for position, count, _ in prices]
    listed = {(position, count): fraction(price) for position, count, price in prices}
    start = (first_position(hall), 0)
    if len(set(standings)) < len(standings) or any(price < 0 for price in listed.values()):
        return False
    if start not in listed or listed[start] > fraction(share):
        return False
    for standing in standings:
        if standing[1] == len(goal):
            if listed[standing] < 1:
                return False
            continue
        for _, behind in models.standings_from(hall, goal, standing):
            if any(one not in listed for one in behind):
                return False
            if behind and sum(listed[one] for one in behind) / len(behind) > listed[standing]:
                return False
    return True


class Made(unittest.TestCase):
    def check(self, hall, goal, odds=None):
        """One entry for each reached standing; accepted with the best odds, and with no less."""
        prices = make_prices(hall, goal)
        self.assertIs(type(prices), tuple)
        self.assertTrue(all(type(one) is tuple and len(one) == 3 and type(one[2]) is Share for one in prices))
        self.assertTrue(is_exact(tuple((position, count) for position, count, _ in prices)))
        reached = models.reached_standings(hall, goal) if odds is None else odds
        self.assertEqual(len(prices), len(reached))
        self.assertEqual({(position, count) for position, count, _ in prices}, set(reached))
        best = best_odds(hall, goal)
        self.assertEqual([price for position, count, price in prices if (position, count) == (first_position(hall), 0)], [best])
        self.assertIs(judge_prices(hall, goal, prices, best), True)
        self.assertIs(judge_prices(hall, tuple(goal), list(prices), best + Share(1, 10 ** 30)), True)
        self.assertIs(judge_prices(hall, goal, prices, best - Share(1, 10 ** 30)), False)
        return prices

    def test_examples(self):
        for goal in ([1], [0], [1, 1], [2], [1, 0]):
            self.check(SEEN, goal)

    def test_of_a_coin(self):
        told = {(position, count): str(price) for position, count, price in self.check(COIN, [1])}
        self.assertEqual(told, {(START, 0): "1/2", (SIDES[0], 0): "0/1", (SIDES[1], 0): "1/1", (PRINTED[1], 1): "1/1"})

    def test_nothing_is_asked_behind_won_standings(self):
        hall = Hall(Program(0, 0, [[("print", 0), ("set", 0, 1), ("print", 0), STOP]]), [], [])
        self.assertEqual([len(self.check(hall, goal)) for goal in ([0], [0, 1], [0, 0], [1])], [2, 4, 3, 1])

    def test_won_by_several_ways(self):
        hall = Hall(Program(0, 0, [[("print", 0), STOP], [("print", 0), STOP]]), [], [])
        self.check(hall, [0])
        self.check(hall, [0, 0])

    def test_random_halls(self):
        for hall, goal, odds in small_halls(411, 120, 400):
            prices = self.check(hall, goal, odds)
            # They are even the best odds from each standing.
            self.assertEqual({(position, count): fraction(price) for position, count, price in prices}, odds)

    def test_made_programs(self):
        stock = stairs(2)
        for copies in (1, 2):
            program, _ = parting(stock, make_script(stock), copies=copies)
            for way in ("code", "plain"):
                self.check(Hall(program, [stock] * copies, [way] * copies), [1])

    def test_arguments_stay(self):
        goal = [1]
        prices = list(make_prices(SEEN, goal))
        before = list(prices)
        judge_prices(SEEN, goal, prices, HALF)
        self.assertEqual((goal, prices), ([1], before))
        self.assertEqual(make_prices(SEEN, goal), make_prices(SEEN, (1,)))


class Judged(unittest.TestCase):
    def setUp(self):
        self.right = [(START, 0, HALF), (SIDES[0], 0, Share(0)), (SIDES[1], 0, Share(1)), (PRINTED[1], 1, Share(1))]

    def judge(self, prices, wanted, share=HALF, goal=(1,), hall=COIN):
        self.assertIs(judge_prices(hall, goal, prices, share), wanted)
        self.assertIs(judge_prices(hall, list(goal), list(prices)[::-1], share), wanted)
        self.assertEqual(accepted(hall, goal, prices, share), wanted)

    def test_right(self):
        self.judge(self.right, True)
        self.judge(tuple(self.right), True)

    def test_the_share(self):
        for share, wanted in ((Share(1, 2), True), (Share(499, 1000), False), (Share(0), False), (Share(-1), False), (Share(7), True),
                              (Share(10 ** 59, 2 * 10 ** 59 + 1), False)):
            self.judge(self.right, wanted, share)

    def test_every_entry_is_needed(self):
        for at in range(4):
            self.judge(self.right[:at] + self.right[at + 1:], False)
        self.judge([], False)

    def test_twice(self):
        for at in range(4):
            position, count, price = self.right[at]
            self.judge(self.right + [self.right[at]], False)
            self.judge(self.right + [(position, count, price + Share(1))], False)

    def test_prices_that_are_too_low(self):
        low = Share(1, 10 ** 20)
        for at in range(4):
            position, count, price = self.right[at]
            self.judge(self.right[:at] + [(position, count, price - low)] + self.right[at + 1:], False)

    def test_prices_that_are_higher(self):
        high = Share(1, 10 ** 20)
        for at, wanted in enumerate((False, False, False, False)):
            position, count, price = self.right[at]
            changed = self.right[:at] + [(position, count, price + high)] + self.right[at + 1:]
            self.judge(changed, wanted)
        # With room at the first standing, a side may cost more.
        roomy = [(START, 0, Share(3, 4)), (SIDES[0], 0, HALF), *self.right[2:]]
        self.judge(roomy, True, Share(3, 4))
        self.judge(roomy, False, HALF)
        self.judge([(START, 0, Share(2)), (SIDES[0], 0, Share(0)), (SIDES[1], 0, Share(4)), (PRINTED[1], 1, Share(4))], True, Share(2))
        # The mean counts, not each side: one side may be dearer than the standing before the coin.
        self.judge([(START, 0, Share(1)), (SIDES[0], 0, Share(1, 3)), (SIDES[1], 0, Share(5, 3)), (PRINTED[1], 1, Share(5, 3))], True, Share(1))

    def test_negative_prices(self):
        self.judge([*self.right, (PRINTED[0], 0, Share(-1))], False)
        self.judge([*self.right, (PRINTED[0], 0, Share(0))], True)

    def test_unreached_standings_are_asked_too(self):
        self.judge([*self.right, (SIDES[1], 1, Share(1))], True)
        self.judge([*self.right, (SIDES[1], 1, Share(9, 10))], False)
        self.judge([*self.right, (START, 1, Share(1))], True)
        # At count 1 of the goal (1, 1) the second print is asked for, and what is behind it is not listed.
        longer = [(START, 0, Share(0)), (SIDES[0], 0, Share(0)), (SIDES[1], 0, Share(0)), (PRINTED[1], 1, Share(0))]
        self.judge(longer, True, Share(0), (1, 1))
        self.judge([*longer, (SIDES[1], 1, Share(1))], False, Share(0), (1, 1))
        self.judge([*longer, (SIDES[1], 1, Share(1)), (PRINTED[1], 2, Share(1))], True, Share(0), (1, 1))
        self.judge([*longer, (SIDES[1], 1, HALF), (PRINTED[1], 2, Share(1))], False, Share(0), (1, 1))
        self.judge([*longer, (START, 1, HALF)], False, Share(0), (1, 1))

    def test_the_first_standing_has_the_count_0(self):
        self.judge([(START, 1, Share(1))], False, Share(1))
        self.judge([(START, 1, Share(1)), *self.right[1:]], False, Share(1))

    def test_long_shares(self):
        big = 2 ** 400
        self.judge([(START, 0, Share(big + 1, 2 * big)), (SIDES[0], 0, Share(1, big)), *self.right[2:]], True, Share(1))
        self.judge([(START, 0, Share(big + 1, 2 * big)), (SIDES[0], 0, Share(2, big)), *self.right[2:]], False, Share(1))

    def test_goals_of_eight(self):
        lines = [("print", 0)] * 9 + [STOP]
        hall = Hall(Program(0, 0, [lines]), [], [])
        goal = (0,) * 8
        prices = make_prices(hall, goal)
        self.assertEqual([count for _, count, _ in prices], list(range(9)))
        self.judge(prices, True, Share(1), goal, hall)
        self.judge(prices[:-1], False, Share(1), goal, hall)
        self.judge(make_prices(hall, goal[:7]), True, Share(1), goal[:7], hall)
        self.judge(make_prices(hall, goal[:7]), False, Share(1), goal, hall)

    def test_changed_lists(self):
        """Right lists, and the same with one thing changed, against the words of the document."""
        generator = random.Random(412)
        met = [0, 0]
        for hall, goal, _ in small_halls(413, 60, 150):
            prices = shuffled(generator, make_prices(hall, goal))
            best = best_odds(hall, goal)
            for _ in range(12):
                changed = list(prices)
                at = generator.randrange(len(changed))
                position, count, price = changed[at]
                other = generator.choice(prices)
                by = generator.choice([Share(1), Share(1, 2), Share(1, 1000)])
                changed[at:at + 1] = generator.choice([
                    [], [(position, count, price + by)], [(position, count, price - by)], [(position, count + 1, price)],
                    [changed[at], (other[0], generator.randint(0, len(goal)), other[2])], [(position, count, other[2])]])
                changed = [one for one in changed if one[1] <= len(goal)]
                share = generator.choice([best, best, best + by, best - by])
                wanted = accepted(hall, goal, changed, share)
                self.assertIs(judge_prices(hall, goal, changed, share), wanted)
                met[wanted] += 1
        self.assertGreater(min(met), 60)

    def test_no_plan_is_better_than_an_accepted_price(self):
        generator = random.Random(414)
        for hall, goal, _ in small_halls(415, 20, 150):
            share = [price for position, count, price in make_prices(hall, goal) if (position, count) == (first_position(hall), 0)][0]
            for _ in range(10):
                plan = random_plan(generator, hall, first_position(hall), 15)
                self.assertTrue(plan_odds(hall, plan, goal).at_most(share))
