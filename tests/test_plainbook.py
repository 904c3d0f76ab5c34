import unittest

from oddskept.errors import BadBook
from oddskept.plainbook import PlainBook
from tests.helpers import is_exact

GOOD_NAMES = ("a", "z", "a0", "z9z", "abcdefghij0123456789")
BAD_NAMES = ("", "0", "9a", "A", "aB", "a b", "a_b", "a.b", "a\n", "a\t", " a", "-", "+", "abcdefghij0123456789x")


class KeptBooks(unittest.TestCase):
    def test_fields(self):
        book = PlainBook(3, 2, [["pick", 0, 7, 2, 0], ("pick", 0, 7, 1, 7)])
        self.assertEqual([book.states, book.first, book.choices], [3, 2, (("pick", 0, 7, 2, 0), ("pick", 0, 7, 1, 7))])
        self.assertTrue(is_exact(book.choices))
        self.assertIs(type(book.choices), tuple)

    def test_no_choices(self):
        self.assertEqual(PlainBook(1, 0, ()).choices, ())
        self.assertIs(PlainBook(1, 0, []).deterministic, True)

    def test_copied(self):
        choice = ["pick", 0, 0, 0, 0]
        choices = [choice]
        book = PlainBook(1, 0, choices)
        choice[4] = 1
        choices.append(("pick", 0, 1, 0, 0))
        self.assertEqual(book.choices, (("pick", 0, 0, 0, 0),))
        self.assertEqual(book.options("pick", 0, 0), [(0, 0)])

    def test_bounds(self):
        for states, first in ((1, 0), (600, 0), (600, 599)):
            self.assertEqual(PlainBook(states, first, []).first, first)
        edge = ("pick", 599, 7, 599, 7)
        self.assertEqual(PlainBook(600, 0, [edge]).choices, (edge,))
        for name in GOOD_NAMES:
            self.assertEqual(PlainBook(1, 0, [(name, 0, 0, 0, 0)]).choices[0][0], name)

    def test_four_options(self):
        four = [("pick", 0, 0, goal, answer) for goal in (0, 1) for answer in (0, 1)]
        book = PlainBook(2, 0, four)
        self.assertEqual(book.options("pick", 0, 0), [(0, 0), (0, 1), (1, 0), (1, 1)])
        other = [("pick", 1, 0, 0, 0), ("pick", 0, 1, 0, 0), ("hit", 0, 0, 0, 0)]
        self.assertEqual(len(PlainBook(2, 0, four + other).choices), 7)

    def test_many_choices(self):
        choices = [(f"d{deed}", state, 0, 0, 0) for deed in range(50) for state in range(600)]
        book = PlainBook(600, 0, choices)
        self.assertEqual(len(book.choices), 30000)
        self.assertIs(book.deterministic, True)


class RefusedBooks(unittest.TestCase):
    def refuse(self, states, first, choices):
        with self.subTest(states=states, first=first, choices=choices), self.assertRaises(BadBook):
            PlainBook(states, first, choices)

    def test_numbers_of_states(self):
        for states in (0, -1, 601, 10 ** 9):
            self.refuse(states, 0, [])

    def test_first_states(self):
        for states, first in ((1, 1), (1, -1), (600, 600), (3, 10 ** 9)):
            self.refuse(states, first, [])

    def test_ranges_of_choices(self):
        for choice in (("pick", 2, 0, 0, 0), ("pick", -1, 0, 0, 0), ("pick", 0, 0, 2, 0), ("pick", 0, 0, -1, 0),
                       ("pick", 0, 8, 0, 0), ("pick", 0, -1, 0, 0), ("pick", 0, 0, 0, 8), ("pick", 0, 0, 0, -1)):
            self.refuse(2, 0, [choice])
            self.refuse(2, 0, [("pick", 1, 1, 1, 1), choice])

    def test_names(self):
        for name in BAD_NAMES:
            self.refuse(1, 0, [(name, 0, 0, 0, 0)])

    def test_equal_choices(self):
        self.refuse(2, 0, [("pick", 0, 0, 1, 0), ("pick", 0, 0, 1, 1), ("pick", 0, 0, 1, 0)])

    def test_five_options(self):
        self.refuse(5, 0, [("pick", 0, 0, goal, 0) for goal in range(5)])


class Options(unittest.TestCase):
    def test_order_of_choices(self):
        book = PlainBook(3, 0, [("pick", 0, 0, 2, 1), ("hit", 0, 0, 0, 0), ("pick", 0, 0, 0, 1), ("pick", 0, 0, 1, 0)])
        self.assertEqual(book.options("pick", 0, 0), [(2, 1), (0, 1), (1, 0)])
        self.assertTrue(is_exact(tuple(book.options("pick", 0, 0))))

    def test_none(self):
        book = PlainBook(2, 0, [("pick", 0, 0, 1, 0)])
        for deed, state, argument in (("pick", 1, 0), ("pick", 0, 1), ("hit", 0, 0), ("pick", 2, 0), ("pick", -1, 0),
                                      ("pick", 0, 8), ("pick", 0, -1), ("", 0, 0), ("No name", 0, 0)):
            with self.subTest(deed=deed, state=state, argument=argument):
                self.assertEqual(book.options(deed, state, argument), [])

    def test_new_list_each_time(self):
        book = PlainBook(2, 0, [("pick", 0, 0, 1, 0)])
        book.options("pick", 0, 0).clear()
        book.options("hit", 0, 0).append((0, 0))
        self.assertEqual([book.options("pick", 0, 0), book.options("hit", 0, 0)], [[(1, 0)], []])

    def test_deterministic(self):
        one = [("pick", 0, 0, 1, 0), ("pick", 0, 1, 1, 0), ("pick", 1, 0, 1, 0), ("hit", 0, 0, 1, 0)]
        self.assertIs(PlainBook(2, 0, one).deterministic, True)
        for other in (("pick", 0, 0, 0, 0), ("pick", 0, 0, 1, 1), ("hit", 0, 0, 0, 5)):
            self.assertIs(PlainBook(2, 0, one + [other]).deterministic, False)

    def test_example(self):
        plain = PlainBook(2, 0, [("pick", 0, 0, 1, 0), ("pick", 0, 0, 0, 1)])
        self.assertEqual([plain.choices[1], plain.options("pick", 0, 0), plain.options("pick", 1, 0), plain.deterministic],
                         [("pick", 0, 0, 0, 1), [(1, 0), (0, 1)], [], False])
