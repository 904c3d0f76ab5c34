import random
import unittest

from oddskept.coderun import after, first_state, moves_of, walk
from oddskept.families import stairs, tally
from oddskept.orders import judge_order, ordered, unordered
from oddskept.plainbook import PlainBook
from oddskept.posts import post_row
from oddskept.stocks import Stock, first_plain
from tests import models
from tests.helpers import (broken_tally, code_with, fused_tally, guessing_stock, is_exact, loose, moves_for, random_plain,
                           random_row, tiny_stock)

ROW = [(0, 2, 0), (1, 2, 0), (0, 0, 0), (1, 0, 0), (1, 0, 0), (2, 0, 1)]
ASKED_END = [(1, 2, 0), (1, 2, 0), (1, 2, 0), (2, 2, 0)]


def shortest_unordered(stock):
    """The number of moves of a shortest row whose post is empty, by whole posts; None if there is none."""
    for (_, plains), many in models.sets_from(stock, (first_state(stock.code), first_plain(stock))).items():
        if not plains:
            return many
    return None


class Ordered(unittest.TestCase):
    def check(self, stock, row):
        order = ordered(stock, row)
        if order is None:
            self.assertEqual(post_row(stock, [first_plain(stock)], row), [])
        else:
            self.assertIs(type(order), list)
            self.assertTrue(is_exact(tuple(order)))
            self.assertTrue(judge_order(stock, row, order))
            self.assertTrue(judge_order(stock, tuple(row), tuple(order)))
            begins = sum(move[0] == 0 for move in row)
            self.assertLessEqual(sum(entry[0] == "take" for entry in order), begins)
        return order

    def test_example(self):
        self.assertEqual(ordered(stairs(1), [(0, 0, 0), (2, 0, 0), (0, 0, 2), (2, 0, 0)]),
                         [("begin", 0, 0), ("take", 0, 0), ("end", 0, 0), ("begin", 0, 2), ("take", 0, 0), ("end", 0, 0)])

    def test_empty_row(self):
        for row in ([], (), [(1, 0, 0)], [(1, 0, 0)] * 3):
            self.assertEqual(ordered(stairs(1), row), [])

    def test_other_choice(self):
        order = self.check(stairs(1), ((0, 0, 0), (2, 0, 0), (0, 0, 1), (1, 0, 0), (2, 0, 1)))
        self.assertEqual(order[1], ("take", 0, 1))

    def test_no_order(self):
        stock = stairs(1)
        for row in ([(2, 0, 0)], [(0, 0, 0), (0, 0, 0)], [(0, 0, 0), (2, 0, 1)], [(0, 0, 0), (2, 0, 7)],
                    [(0, 0, 0), (2, 0, 0), (2, 0, 0)], [(0, 0, 1), (2, 0, 0), (0, 0, 0)]):
            self.assertIsNone(ordered(stock, row))

    def test_calls_that_are_not_answered(self):
        self.assertEqual(ordered(stairs(1), [(0, 0, 0)])[0], ("begin", 0, 0))
        self.check(stairs(1), [(0, 0, 0)])

    def test_takes_of_other_ports(self):
        # Port 2 counts no flag although port 0 has answered: it has taken ahead of port 0.
        order = self.check(tally([0, 1]), ROW + ASKED_END)
        takes = [entry for entry in order if entry[0] == "take"]
        self.assertEqual(takes, [("take", 2, 0), ("take", 0, 0)])
        order = self.check(tally([0, 1]), ROW + [(1, 2, 0), (0, 1, 0), (1, 1, 0), (1, 1, 0), (1, 2, 0), (1, 2, 0), (2, 2, 1)])
        self.assertEqual([entry[1] for entry in order if entry[0] == "take"], [0, 2])

    def test_take_of_another_port_makes_the_answer_possible(self):
        # The reader answers 1 while the writer still runs, so the writer has taken.
        order = self.check(tally([0, 1]), [(0, 0, 0), (1, 0, 0), (1, 0, 0), (0, 2, 0), (1, 2, 0), (1, 2, 0), (1, 2, 0),
                                           (1, 2, 0), (2, 2, 1)])
        self.assertEqual(order, [("begin", 0, 0), ("begin", 2, 0), ("take", 0, 0), ("take", 2, 0), ("end", 2, 1)])

    def test_long_rows(self):
        stock = stairs(6)
        row = [(0, 0, 2), (2, 0, 0)] * 2000
        self.assertEqual(len(self.check(stock, row)), 6000)
        row = row + [(0, 0, 0), (2, 0, 1)]
        self.assertIsNone(self.check(stock, row))

    def test_random_rows(self):
        generator = random.Random(21)
        found = [0, 0]
        for number in range(200):
            stock = guessing_stock(generator, 1 + number % 2) if number % 3 else tiny_stock(generator)
            row = random_row(generator, stock.code, first_state(stock.code), generator.randint(0, 14))
            found[self.check(stock, row) is None] += 1
            row = generator.choices(moves_for(stock), k=generator.randint(0, 5))
            self.check(stock, row)
        self.assertGreater(min(found), 30)

    def test_random_rows_of_no_code(self):
        generator = random.Random(22)
        code = code_with(ports=[[("go", 0), ("hit", 1)], [("go", 1)], [("hit", 0)]],
                         deeds=[("go", loose(("answer", 0))), ("hit", loose(("answer", 0)))])
        found = [0, 0]
        for _ in range(400):
            stock = Stock(code, random_plain(generator, ["go", "hit"]))
            row = [(0, port, 0) for port in range(3)] + [(2, generator.randrange(3), generator.randrange(2)) for _ in range(2)]
            found[self.check(stock, row) is None] += 1
        self.assertGreater(min(found), 50)

    def test_new_list(self):
        row = [(0, 0, 0)]
        ordered(stairs(1), row).clear()
        self.assertEqual(ordered(stairs(1), row)[0], ("begin", 0, 0))
        self.assertEqual(row, [(0, 0, 0)])


class JudgeOrder(unittest.TestCase):
    STOCK = stairs(1)
    ROW = [(0, 0, 0), (2, 0, 0), (0, 0, 2), (2, 0, 0)]
    ORDER = [("begin", 0, 0), ("take", 0, 0), ("end", 0, 0), ("begin", 0, 2), ("take", 0, 0), ("end", 0, 0)]

    def test_right(self):
        self.assertIs(judge_order(self.STOCK, self.ROW, self.ORDER), True)
        self.assertIs(judge_order(self.STOCK, tuple(self.ROW), tuple(self.ORDER)), True)
        self.assertIs(judge_order(self.STOCK, [], []), True)
        self.assertIs(judge_order(self.STOCK, [(1, 0, 0)], ()), True)

    def test_takes_behind_the_last_end(self):
        row = [(0, 0, 0)]
        for order in ([("begin", 0, 0)], [("begin", 0, 0), ("take", 0, 0)], [("begin", 0, 0), ("take", 0, 1)]):
            self.assertTrue(judge_order(self.STOCK, row, order))
        stock = tally([0, 1])
        self.assertTrue(judge_order(stock, [(0, 0, 0), (0, 2, 0), (1, 0, 0)],
                                    [("begin", 0, 0), ("begin", 2, 0), ("take", 2, 0), ("take", 0, 0)]))

    def test_steps_do_not_count(self):
        row = [(1, 0, 0)] + [move for one in self.ROW for move in (one, (1, 0, 0), (1, 0, 0))]
        self.assertTrue(judge_order(self.STOCK, row, self.ORDER))

    def test_one_entry_missing_doubled_or_changed(self):
        others = [(word, port, value) for word in ("begin", "take", "end") for port in (0,) for value in (0, 1, 2, 3, 8, 10 ** 9)]
        for at, entry in enumerate(self.ORDER):
            wrong = [[], [entry, entry]] + [[other] for other in others if other != entry]
            for pieces in wrong:
                order = self.ORDER[:at] + pieces + self.ORDER[at + 1:]
                with self.subTest(order):
                    self.assertIs(judge_order(self.STOCK, self.ROW, order), False)

    def test_the_choice_counts(self):
        order = [("take", 0, 1) if at == 1 else entry for at, entry in enumerate(self.ORDER)]
        self.assertFalse(judge_order(self.STOCK, self.ROW, order))
        row = self.ROW[:2] + [(0, 0, 1), (1, 0, 0), (2, 0, 1)]
        rest = [("begin", 0, 1), ("take", 0, 0), ("end", 0, 1)]
        self.assertTrue(judge_order(self.STOCK, row, order[:3] + rest))
        self.assertFalse(judge_order(self.STOCK, row, self.ORDER[:3] + rest))

    def test_rows_that_no_code_allows(self):
        self.assertFalse(judge_order(self.STOCK, [(0, 0, 0), (0, 0, 0)], [("begin", 0, 0), ("begin", 0, 0)]))
        self.assertFalse(judge_order(self.STOCK, [(2, 0, 0)], [("end", 0, 0)]))
        self.assertFalse(judge_order(self.STOCK, [(2, 0, 0)], []))
        self.assertFalse(judge_order(self.STOCK, [], [("begin", 0, 0)]))
        self.assertFalse(judge_order(self.STOCK, [], [("take", 0, 0)]))

    def test_two_ports(self):
        stock = tally([0, 1])
        row = [(0, 0, 0), (0, 2, 0), (2, 2, 0)]
        right = [("begin", 0, 0), ("begin", 2, 0), ("take", 2, 0), ("end", 2, 0)]
        self.assertTrue(judge_order(stock, row, right))
        self.assertTrue(judge_order(stock, row, right + [("take", 0, 0)]))
        self.assertFalse(judge_order(stock, row, right[:2] + [("take", 0, 0)] + right[2:]))
        self.assertFalse(judge_order(stock, row, [right[1], right[0]] + right[2:]))
        self.assertFalse(judge_order(stock, row, right[:2] + [("take", 1, 0)] + right[3:]))
        self.assertFalse(judge_order(stock, row, right + [("take", 2, 0)]))


class Unordered(unittest.TestCase):
    def test_example(self):
        self.assertEqual([unordered(stairs(1)), len(unordered(Stock(stairs(1).code, PlainBook(1, 0, []))))], [None, 2])

    def test_grades_above_0(self):
        for stock in [stairs(height) for height in range(1, 7)] + [tally([0, 1]), tally([1, 0]), fused_tally()]:
            self.assertIsNone(unordered(stock))

    def test_a_row_and_its_kind(self):
        stock = broken_tally()
        row = unordered(stock)
        self.assertTrue(is_exact(row))
        self.assertIs(type(row), tuple)
        walk(stock.code, first_state(stock.code), row)
        self.assertIsNone(ordered(stock, row))
        self.assertEqual(len(row), shortest_unordered(stock))

    def test_steps_count(self):
        # `hit` answers wrong behind a step, `down` at once.
        plain = PlainBook(1, 0, [("pick", 0, 0, 0, 0), ("hit", 0, 0, 0, 0), ("down", 0, 0, 0, 1)])
        self.assertEqual(unordered(Stock(stairs(1).code, plain)), ((0, 0, 2), (2, 0, 0)))
        plain = PlainBook(1, 0, [("pick", 0, 0, 0, 0), ("hit", 0, 0, 0, 0), ("down", 0, 0, 0, 0)])
        self.assertEqual(unordered(Stock(stairs(1).code, plain)), ((0, 0, 1), (1, 0, 0), (2, 0, 1)))

    def test_no_moves(self):
        self.assertIsNone(unordered(Stock(code_with(ports=[[]]), PlainBook(1, 0, []))))

    def test_random_stocks(self):
        generator = random.Random(23)
        found = [0, 0]
        for number in range(60):
            stock = guessing_stock(generator, 1) if number % 2 else tiny_stock(generator)
            row = unordered(stock)
            many = shortest_unordered(stock)
            found[row is None] += 1
            if row is None:
                self.assertIsNone(many)
            else:
                self.assertEqual(len(row), many)
                state = first_state(stock.code)
                for move in row:
                    self.assertIn(move, moves_of(stock.code, state))
                    state = after(stock.code, state, move)
                self.assertIsNone(ordered(stock, row))
        self.assertGreater(min(found), 10)
