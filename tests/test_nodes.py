import random
import unittest

from oddskept.codebook import CodeBook
from oddskept.codestates import code_states
from oddskept.coderun import after, first_state, moves_of
from oddskept.families import stairs, tally
from oddskept.nodes import first_node, next_nodes, pairs_of
from oddskept.plainbook import PlainBook
from oddskept.stocks import Stock, first_plain
from tests import models
from tests.helpers import code_with, is_exact, lines, random_code, random_marks, random_plain, shuffled


class FirstNodes(unittest.TestCase):
    def test_first_node(self):
        self.assertEqual(first_node(stairs(2)), (((), (), ((),)), ((4, ((),)),)))
        self.assertEqual(first_node(tally([0, 1])), ((((0, 0),), (), ((), (), ())), ((0, ((), (), ())),)))
        self.assertTrue(is_exact(first_node(tally([0, 1]))))


class NextNodes(unittest.TestCase):
    def test_order_of_the_moves(self):
        stock = stairs(1)
        idle = first_state(stock.code)
        self.assertEqual(next_nodes(stock, first_node(stock)), [
            ((0, 0, item), (after(stock.code, idle, (0, 0, item)), ((1, ((0, deed, 0),)),)))
            for item, deed in enumerate(["pick", "hit", "down"])])

    def test_members_in_any_order_and_twice(self):
        stock = tally([0, 1])
        state = (((0, 0),), (), ((), (), ("count", 4, (0, 0, 1))))
        members = ((1, ((), (), (1, 1))), (1, ((), (), (0, "count", 0))), (1, ((), (), (1, 1))))
        behind = ((((0, 0),), (), ((), (), ())), ((1, ((), (), ())),))
        for told in (members, members[::-1], members[:2], members[1:]):
            self.assertEqual(next_nodes(stock, (state, told))[-1], ((2, 2, 1), behind))
        # A step leaves the members that do not lie in the front.
        state = (((0, 0),), (), ((), (), ("count", 0, (0, 0, 0))))
        self.assertEqual(next_nodes(stock, (state, members))[-1][1][1], ((1, ((), (), (0, "count", 0))),))

    def test_no_members(self):
        stock = tally([0, 1])
        idle = first_state(stock.code)
        told = next_nodes(stock, (idle, ()))
        self.assertEqual([(move, members) for move, (_, members) in told], [((0, port, 0), ()) for port in range(3)])

    def test_no_moves(self):
        stock = Stock(code_with(ports=[[]]), PlainBook(1, 0, []))
        self.assertEqual(next_nodes(stock, first_node(stock)), [])

    def test_members_that_cannot_follow(self):
        stock = stairs(1)
        node = (after(stock.code, first_state(stock.code), (0, 0, 0)), ((1, ((0, "unknown", 0),)), (2, ((1, 7),))))
        self.assertEqual(next_nodes(stock, node), [((2, 0, 0), (first_state(stock.code), ()))])

    def test_example(self):
        node = (((), (), (("pick", 0, (0,)),)), ((1, ((0, "pick", 0),)),))
        self.assertEqual([next_nodes(stairs(1), node), len(pairs_of(stairs(1)))],
                         [[((2, 0, 0), (((), (), ((),)), ((2, ((),)), (3, ((),)))))], 20])

    def test_against_the_model(self):
        generator = random.Random(11)
        for _ in range(100):
            code = random_code(generator)
            stock = Stock(code, random_plain(generator, ["go", "hit"]))
            ports = len(code.ports)
            for state in generator.sample(code_states(code), min(5, len(code_states(code)))):
                members = [(generator.randrange(3), random_marks(generator, ["go", "hit"], ports)) for _ in range(3)]
                reached = sorted(set().union(*[models.reached(stock, member) for member in members]))
                members = shuffled(generator, members + generator.choices(reached, k=2))
                told = next_nodes(stock, (state, tuple(members)))
                self.assertEqual(told, [(move, models.node_behind(stock, (state, members), move))
                                        for move in moves_of(code, state)])
                self.assertTrue(is_exact(tuple(told)))
                self.assertIs(type(told), list)


class Pairs(unittest.TestCase):
    def check(self, stock):
        told = pairs_of(stock)
        self.assertEqual(told, sorted(models.pairs(stock)))
        self.assertIs(type(told), list)
        self.assertTrue(is_exact(tuple(told)))

    def test_stairs(self):
        for height in range(1, 7):
            self.check(stairs(height))

    def test_tally(self):
        self.check(tally([0, 1]))
        self.check(tally([1, 0]))

    def test_three_flags(self):
        # A pair is a code state beside a plain state; each member is seen once, so this takes moments.
        told = pairs_of(tally([1, 2, 0]))
        self.assertEqual(len(told), 40690)
        self.assertEqual(told, sorted(set(told)))

    def test_an_object_that_cannot_answer(self):
        stock = Stock(stairs(1).code, PlainBook(1, 0, []))
        idle = first_state(stock.code)
        self.assertEqual(len(pairs_of(stock)), 5)
        self.assertIn((idle, first_plain(stock)), pairs_of(stock))

    def test_no_moves(self):
        stock = Stock(code_with(ports=[[], []]), PlainBook(3, 2, []))
        self.assertEqual(pairs_of(stock), [(((), (), ((), ())), (2, ((), ())))])

    def test_fronts_leave_out_what_one_member_leads_to(self):
        # Behind the row the front has one member, but another member of the node before it leads elsewhere.
        generator = random.Random(12)
        checked = 0
        while checked < 60:
            code = random_code(generator)
            if 3 < len(code_states(code)) < 100:
                self.check(Stock(code, random_plain(generator, ["go", "hit"], states=2)))
                checked += 1

    def test_fused_lines(self):
        code = CodeBook(2, 2, [[0]], [], [[("go", 0), ("go", 1)], [("go", 1)]],
                        [("go", lines("+", ("swap", 0, 0, 0), ("set", 1, 1), ("answer", 0)))])
        self.check(Stock(code, PlainBook(2, 0, [("go", state, argument, argument, state)
                                                for state in (0, 1) for argument in (0, 1)])))

    def test_new_list(self):
        stock = stairs(1)
        pairs_of(stock).clear()
        next_nodes(stock, first_node(stock)).clear()
        self.assertEqual([len(pairs_of(stock)), len(next_nodes(stock, first_node(stock)))], [20, 3])
