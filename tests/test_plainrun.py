import random
import unittest

from oddskept.errors import BadMove
from oddskept.families import stairs, tally
from oddskept.plainbook import PlainBook
from oddskept.plainrun import reach, taken, takes_of
from oddskept.stocks import Stock
from tests import models
from tests.helpers import code_with, is_exact, random_marks, random_plain

THREE = code_with(ports=[[("go", 0)]] * 3)


class Takes(unittest.TestCase):
    def test_example(self):
        state = (1, ((0, "pick", 0),))
        self.assertEqual([takes_of(stairs(1), state), reach(stairs(1), state)],
                         [[(0, 0), (0, 1)], [(1, ((0, "pick", 0),)), (2, ((1, 0),)), (3, ((1, 0),))]])

    def test_marks_without_takes(self):
        stock = tally([0, 1])
        for marks in (((), (), ()), ((1, 0), (1, 7), ()), ((0, "unknown", 0), (0, "raise", 7), (0, "count", 1))):
            self.assertEqual(takes_of(stock, (0, marks)), [])
            self.assertEqual(reach(stock, (0, marks)), [(0, marks)])

    def test_ascending_takes(self):
        stock = Stock(THREE, PlainBook(1, 0, [("go", 0, 0, 0, answer) for answer in (3, 1, 0, 2)] + [("hit", 0, 1, 0, 0)]))
        state = (0, ((0, "go", 0), (0, "hit", 1), (0, "go", 0)))
        self.assertEqual(takes_of(stock, state), [(0, 0), (0, 1), (0, 2), (0, 3), (1, 0), (2, 0), (2, 1), (2, 2), (2, 3)])
        self.assertEqual(taken(stock, state, 2, 1), (0, ((0, "go", 0), (0, "hit", 1), (1, 1))))

    def test_deeds_of_no_code(self):
        stock = Stock(THREE, PlainBook(2, 0, [("other", 0, 5, 1, 7)]))
        state = (0, ((), (0, "other", 5), ()))
        self.assertEqual(takes_of(stock, state), [(1, 0)])
        self.assertEqual(taken(stock, state, 1, 0), (1, ((), (1, 7), ())))

    def test_nothing_else_changes(self):
        stock = tally([0, 1])
        state = (0, ((0, "raise", 0), (1, 5), (0, "count", 0)))
        self.assertEqual(taken(stock, state, 0, 0), (1, ((1, 1), (1, 5), (0, "count", 0))))
        self.assertEqual(taken(stock, state, 2, 0), (0, ((0, "raise", 0), (1, 5), (1, 0))))
        self.assertEqual(state, (0, ((0, "raise", 0), (1, 5), (0, "count", 0))))

    def test_refused(self):
        stock = stairs(1)
        asked = (1, ((0, "pick", 0),))
        for state, port, choice in ((asked, 0, 2), (asked, 0, -1), (asked, 1, 0), (asked, -1, 0), (asked, -1, 1),
                                    (asked, 10 ** 9, 0), (asked, 0, 10 ** 9), ((1, ((),)), 0, 0), ((1, ((1, 0),)), 0, 0),
                                    ((1, ((0, "unknown", 0),)), 0, 0), ((1, ((0, "pick", 1),)), 0, 0),
                                    ((2, ((0, "pick", 0),)), 0, 1)):
            with self.subTest(state=state, port=port, choice=choice), self.assertRaises(BadMove) as caught:
                taken(stock, state, port, choice)
            self.assertEqual(caught.exception.index, 0)

    def test_against_the_model(self):
        generator = random.Random(2)
        for _ in range(150):
            stock = Stock(THREE, random_plain(generator, ["go", "hit"]))
            state = (generator.randrange(3), random_marks(generator, ["go", "hit"], 3))
            told = models.takes(stock, state)
            self.assertEqual(takes_of(stock, state), [(port, choice) for port, choice, _ in told])
            for port, choice, behind in told:
                self.assertEqual(taken(stock, state, port, choice), behind)
            states = reach(stock, state)
            self.assertEqual(states, sorted(models.reached(stock, state)))
            self.assertTrue(is_exact(tuple(states)))
            self.assertIs(type(states), list)

    def test_new_lists(self):
        stock, state = stairs(1), (1, ((0, "pick", 0),))
        takes_of(stock, state).clear()
        reach(stock, state).clear()
        self.assertEqual([len(takes_of(stock, state)), len(reach(stock, state))], [2, 3])

    def test_eight_asked_ports(self):
        # 8! * 3^8 sequences of takes lead to 4^8 states; each is seen once, so this takes moments.
        code = code_with(modulus=3, ports=[[("go", 0)]] * 8)
        stock = Stock(code, PlainBook(1, 0, [("go", 0, 0, 0, answer) for answer in range(3)]))
        self.assertEqual(len(reach(stock, (0, ((0, "go", 0),) * 8))), 4 ** 8)
