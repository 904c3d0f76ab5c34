import itertools
import random
import unittest

from oddskept.coderun import first_state
from oddskept.families import stairs, tally
from oddskept.nodes import next_nodes
from oddskept.plainbook import PlainBook
from oddskept.plainrun import reach
from oddskept.posts import front_of, post, post_all, post_row
from oddskept.stocks import Stock, first_plain
from tests import models
from tests.helpers import code_with, is_exact, loose, random_marks, random_plain, random_row, shuffled

DEEDS = [("go", loose(("answer", 0))), ("hit", loose(("set", 0, 1), ("answer", 0)))]
CODE = code_with(ports=[[("go", 0), ("hit", 1)], [("go", 1), ("hit", 0)], [("hit", 1)]], deeds=DEEDS)
MOVES = [(0, port, item) for port, menu in enumerate(CODE.ports) for item in range(len(menu))]
MOVES += [(1, port, 0) for port in range(3)] + [(2, port, value) for port in range(3) for value in (0, 1, 7)]

ASKED = (1, ((), (), (0, "count", 0)))
DONE_0 = (1, ((), (), (1, 0)))
DONE_1 = (1, ((), (), (1, 1)))
ROW = [(0, 2, 0), (1, 2, 0), (0, 0, 0), (1, 0, 0), (1, 0, 0), (2, 0, 1)]


def random_states(generator, many):
    return [(generator.randrange(3), random_marks(generator, ["go", "hit"], 3)) for _ in range(many)]


class WalkByHand(unittest.TestCase):
    """Point 63."""

    def test_states_reached_ahead_of_the_answer(self):
        stock = tally([0, 1])
        state = (0, ((0, "raise", 0), (), (0, "count", 0)))
        self.assertEqual(post_row(stock, [first_plain(stock)], ROW[:-1]), [state])
        self.assertEqual(reach(stock, state), [
            (0, ((0, "raise", 0), (), (0, "count", 0))), (0, ((0, "raise", 0), (), (1, 0))),
            (1, ((1, 1), (), (0, "count", 0))), (1, ((1, 1), (), (1, 0))), (1, ((1, 1), (), (1, 1)))])

    def test_post_and_front(self):
        stock = tally([0, 1])
        states = post_row(stock, [first_plain(stock)], ROW)
        self.assertEqual(states, [ASKED, DONE_0, DONE_1])
        self.assertEqual(front_of(stock, states), [ASKED, DONE_0])

    def test_two_ends(self):
        stock = tally([0, 1])
        count = [(1, 2, 0), (1, 2, 0), (1, 2, 0), (2, 2, 0)]
        late = [(0, 1, 0), (1, 1, 0), (1, 1, 0), (1, 2, 0), (1, 2, 0), (1, 2, 0), (2, 2, 1)]
        told = [[len(post_row(stock, [state], row)) for state in (ASKED, DONE_0, DONE_1)] for row in (count, late)]
        self.assertEqual(told, [[0, 1, 0], [2, 0, 2]])


class Posts(unittest.TestCase):
    def test_begin(self):
        stock = tally([0, 1])
        self.assertEqual(post(stock, (3, ((), (1, 1), ())), (0, 0, 0)), [(3, ((0, "raise", 0), (1, 1), ()))])
        for mark in ((0, "raise", 0), (1, 1), (1, 0), (0, "unknown", 7)):
            self.assertEqual(post(stock, (3, (mark, (), ())), (0, 0, 0)), [])
        self.assertEqual(post(stairs(1), (0, ((),)), (0, 0, 2)), [(0, ((0, "down", 0),))])

    def test_step(self):
        stock = tally([0, 1])
        for state in ((0, ((), (), ())), (2, ((0, "unknown", 3), (1, 7), (0, "count", 0)))):
            for port in range(3):
                self.assertEqual(post(stock, state, (1, port, 0)), [state])

    def test_answer(self):
        stock = tally([0, 1])
        state = (0, ((0, "raise", 0), (1, 4), (0, "count", 0)))
        self.assertEqual(post(stock, state, (2, 1, 4)), [
            (0, ((0, "raise", 0), (), (0, "count", 0))), (0, ((0, "raise", 0), (), (1, 0))),
            (1, ((1, 1), (), (0, "count", 0))), (1, ((1, 1), (), (1, 0))), (1, ((1, 1), (), (1, 1)))])
        self.assertEqual(post(stock, state, (2, 1, 3)), [])
        self.assertEqual(post(stock, state, (2, 2, 1)), [(1, ((1, 1), (1, 4), ()))])
        self.assertEqual(post(stock, state, (2, 2, 2)), [])
        self.assertEqual(post(stock, state, (2, 0, 0)), [])
        self.assertEqual(post(stock, (0, ((), (), ())), (2, 0, 1)), [])

    def test_a_deed_that_no_book_knows(self):
        stock = tally([0, 1])
        state = (0, ((0, "unknown", 0), (0, "raise", 1), ()))
        self.assertEqual(post(stock, state, (2, 0, 1)), [])
        self.assertEqual(post(stock, state, (2, 1, 1)), [(2, ((0, "unknown", 0), (), ()))])

    def test_an_answer_that_two_takes_give(self):
        stock = Stock(code_with(), PlainBook(3, 0, [("go", 0, 0, 2, 1), ("go", 0, 0, 1, 1), ("go", 0, 0, 1, 0)]))
        self.assertEqual(post(stock, (0, ((0, "go", 0),)), (2, 0, 1)), [(1, ((),)), (2, ((),))])

    def test_lists(self):
        stock = tally([0, 1])
        one, two = (0, ((0, "raise", 0), (), ())), (1, ((1, 1), (), ()))
        self.assertEqual(post_all(stock, [two, one, two], (2, 0, 1)), [(1, ((), (), ()))])
        self.assertEqual(post_all(stock, (two, one, two), (1, 0, 0)), [one, two])
        self.assertEqual(post_all(stock, [two, one, two], (0, 1, 0)),
                         [(0, ((0, "raise", 0), (0, "raise", 1), ())), (1, ((1, 1), (0, "raise", 1), ()))])
        for move in ((0, 0, 0), (1, 0, 0), (2, 0, 0)):
            for states in ([], ()):
                self.assertEqual(post_all(stock, states, move), [])

    def test_rows(self):
        stock = stairs(1)
        states = [(3, ((),)), (2, ((),)), (3, ((),))]
        for row in ([], ()):
            self.assertEqual(post_row(stock, states, row), [(2, ((),)), (3, ((),))])
            self.assertEqual(post_row(stock, [], row), [])
        self.assertEqual(post_row(stock, [], [(0, 0, 0)]), [])
        self.assertEqual(post_row(stock, tuple(states), ((0, 0, 1), (2, 0, 1))), [(0, ((),))])

    def test_rows_that_the_code_does_not_allow(self):
        stock = stairs(1)
        self.assertEqual(post_row(stock, [(1, ((),))], [(1, 0, 0), (0, 0, 0), (1, 0, 0), (2, 0, 0)]), [(2, ((),)), (3, ((),))])
        self.assertEqual(post_row(stock, [(1, ((),))], [(2, 0, 0), (0, 0, 0)]), [])
        self.assertEqual(post_row(stock, [(1, ((),))], [(0, 0, 0), (0, 0, 0)]), [])

    def test_long_rows(self):
        stock = tally([0, 1])
        self.assertEqual(post_row(stock, [ASKED], [(1, 2, 0)] * 5000), [ASKED])
        self.assertEqual(post_row(stock, [ASKED], [(0, 0, 0), (2, 0, 1)] * 1000), [ASKED, DONE_1])

    def test_example(self):
        stock = stairs(1)
        states = post_row(stock, [first_plain(stock)], [(0, 0, 0), (2, 0, 0)])
        self.assertEqual([states, post_row(stock, states, [(0, 0, 1), (1, 0, 0), (2, 0, 1)])],
                         [[(2, ((),)), (3, ((),))], [(0, ((),))]])

    def test_against_the_model(self):
        generator = random.Random(7)
        for _ in range(120):
            stock = Stock(CODE, random_plain(generator, ["go", "hit"]))
            states = random_states(generator, generator.randint(0, 4))
            for move in MOVES:
                told = post_all(stock, states, move)
                self.assertEqual(told, sorted(models.post_all(stock, states, move)))
                self.assertIs(type(told), list)
                self.assertTrue(is_exact(tuple(told)))
            for state, move in zip(states, shuffled(generator, MOVES)):
                self.assertEqual(post(stock, state, move), sorted(models.post(stock, state, move)))

    def test_runs_behind_rows(self):
        """The facts 3 and 4 of point 19: each run ends behind a state of the post, and each such state ends one."""
        generator = random.Random(8)
        for _ in range(150):
            stock = Stock(CODE, random_plain(generator, ["go", "hit"]))
            row = random_row(generator, CODE, first_state(CODE), generator.randint(0, 8))
            state = first_plain(stock)
            states = post_row(stock, [state], row)
            ends = models.ends_of_runs(stock, state, row)
            self.assertTrue(set(states) <= ends)
            self.assertEqual(ends, set().union(*[models.reached(stock, one) for one in states]))

    def test_eight_asked_ports(self):
        # Each state is seen once, so this takes moments.
        code = code_with(modulus=3, ports=[[("go", 0)]] * 8)
        stock = Stock(code, PlainBook(1, 0, [("go", 0, 0, 0, answer) for answer in range(3)]))
        asked = (0, ((0, "go", 0),) * 8)
        states = post(stock, asked, (2, 0, 1))
        self.assertEqual(len(states), 4 ** 7)
        self.assertEqual(front_of(stock, states), [(0, ((), *asked[1][1:]))])
        self.assertEqual(next_nodes(stock, (((), (), (("go", 0, (1,)),) + ((),) * 7), (asked,)))[0],
                         ((2, 0, 1), (((), (), ((),) * 8), ((0, ((), *asked[1][1:])),))))

    def test_arguments_stay(self):
        stock = tally([0, 1])
        states = [DONE_1, ASKED]
        post_all(stock, states, (2, 2, 1)), post_row(stock, states, [(1, 0, 0)]), front_of(stock, states)
        self.assertEqual(states, [DONE_1, ASKED])


class Fronts(unittest.TestCase):
    def test_example(self):
        states = [DONE_1, DONE_0, ASKED]
        self.assertEqual(front_of(tally([0, 1]), states), [ASKED, DONE_0])

    def test_any_order_and_twice(self):
        stock = tally([0, 1])
        for states in itertools.permutations([DONE_1, DONE_0, ASKED, ASKED, DONE_1]):
            self.assertEqual(front_of(stock, states), [ASKED, DONE_0])
        self.assertEqual(front_of(stock, [DONE_1, DONE_1]), [DONE_1])

    def test_empty(self):
        for states in ([], ()):
            self.assertEqual(front_of(tally([0, 1]), states), [])

    def test_over_states_that_are_not_listed(self):
        stock = tally([0, 1])
        far = (3, ((1, 1), (1, 1), (1, 2)))
        start = (0, ((0, "raise", 0), (0, "raise", 1), (0, "count", 0)))
        self.assertEqual(front_of(stock, [far, start]), [start])
        apart = (3, ((1, 1), (1, 1), (1, 3)))
        self.assertEqual(front_of(stock, [far, apart, start]), [start, apart])

    def test_against_the_model(self):
        generator = random.Random(9)
        smaller = 0
        for _ in range(200):
            stock = Stock(CODE, random_plain(generator, ["go", "hit"]))
            states = random_states(generator, 2)
            reached = sorted(set().union(*[models.reached(stock, state) for state in states]))
            states += generator.sample(reached, generator.randint(0, len(reached)))
            told = front_of(stock, shuffled(generator, states))
            self.assertEqual(told, sorted(models.front(stock, states)))
            smaller += len(told) < len(set(states))
        self.assertGreater(smaller, 50)

    def test_front_of_the_post_of_the_front(self):
        """The fact 2 of point 19."""
        generator = random.Random(10)
        for _ in range(100):
            stock = Stock(CODE, random_plain(generator, ["go", "hit"]))
            states = random_states(generator, 3)
            states = sorted(set().union(*[models.reached(stock, state) for state in states]))
            for move in MOVES:
                self.assertEqual(front_of(stock, post_all(stock, front_of(stock, states), move)),
                                 front_of(stock, post_all(stock, states, move)))
