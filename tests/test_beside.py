import random
import unittest

from oddskept.beside import beside
from oddskept.besidetable import beside_table
from oddskept.codebook import CodeBook
from oddskept.coderun import after, first_state, moves_of
from oddskept.errors import BadBook, Unfit
from oddskept.families import stairs, tally
from oddskept.judges import judge_table
from oddskept.levels import grade_of
from oddskept.plainbook import PlainBook
from oddskept.stocks import Stock, first_plain
from oddskept.tables import make_table
from tests.helpers import ANSWER, CELL, broken_tally, code_with, fields_of, fused_tally, is_exact, lines, loose, random_plain, stocks_of_all_grades
from tests.test_carry import lasting_stairs


def stock_with(states=1, first=0, choices=(), **changes):
    return Stock(code_with(**changes), PlainBook(states, first, choices))


def numbers_in(joint, books):
    """The state numbers that make a joint number."""
    found = []
    for book in reversed(books):
        found.append(joint % book.states)
        joint //= book.states
    return found[::-1]


RICH = Stock(CodeBook(2, 3, [[0, 1], [1]], [("cell", CELL), ("log", CELL)], [[("go", 0), ("go", 1)], []], [
    ("go", lines(("read", 1, 0, 7), ("write", 1, 1, 0, 2), "+", ("swap", 1, 1, 3), ("test", 0, 1, 2, 0, 1), ("test", 0, 1, 2, 1, 1, 0),
                 ("count", 1, 1, 0, 2), ("count", 1, 1, 1, 2, 0), ("use", 1, 0, "put", 0), ("use", 1, 1, "get", 2), "+", ("set", 2, 1),
                 ("copy", 2, 0), ("add", 2, 1, 0), ("less", 2, 1, 0), ("same", 2, 1, 0), ("jump", 15, 2), ("jump", 0), ("answer", 1))),
    ("stay", loose(("jump", 0)))]), PlainBook(3, 1, [("go", 0, 0, 1, 0), ("go", 0, 0, 2, 1), ("nobody", 2, 7, 0, 7), ("go", 0, 0, 0, 0)]))


class Beside(unittest.TestCase):
    def refuse(self, error, *stocks):
        with self.assertRaises(error) as caught:
            beside(*stocks)
        self.assertIs(type(caught.exception), error)

    def check_plain(self, stocks, plain):
        books = [stock.plain for stock in stocks]
        self.assertEqual(numbers_in(plain.first, books), [book.first for book in books])
        wanted = 0
        for joint in range(plain.states):
            numbers = numbers_in(joint, books)
            for at, book in enumerate(books):
                for deed, argument in {(choice[0], choice[2]) for choice in book.choices}:
                    options = plain.options("abcd"[at] + deed, joint, argument)
                    told = [(numbers_in(goal, books), answer) for goal, answer in options]
                    wanted += len(told)
                    self.assertEqual(told, [(numbers[:at] + [goal] + numbers[at + 1:], answer)
                                            for goal, answer in book.options(deed, numbers[at], argument)])
        self.assertEqual(len(plain.choices), wanted)

    def test_example(self):
        stock = beside(stairs(1), stairs(2))
        plain = stock.plain
        self.assertEqual([stock.code.ports[1], plain.states, plain.first, plain.options("apick", 11, 0), plain.options("bpick", 11, 0)],
                         [(("bpick", 0), ("bhit", 0), ("bdown", 0)), 28, 11, [(18, 0), (25, 0)], [(12, 0), (13, 0)]])

    def test_code(self):
        other = stock_with(registers=5, rows=[[1]], parts=[("cell", CELL)], ports=[[("go", 1)]], deeds=[
            ("go", lines(("read", 4, 0, 0), "+", ("jump", 3), ("use", 1, 0, "get", 0), ("answer", 4)))])
        code = beside(other, RICH, stock_with()).code
        self.assertEqual((code.modulus, code.registers, code.rows), (2, 5, ((1,), (0, 1), (1,))))
        self.assertEqual([name for name, _ in code.parts], ["acell", "bcell", "blog"])
        self.assertEqual([name for name, _ in code.deeds], ["ago", "bgo", "bstay", "cgo"])
        self.assertEqual(code.lines_of("ago"), other.code.lines_of("go"))
        self.assertEqual(code.ports, ((("ago", 1),), (("bgo", 0), ("bgo", 1)), (), (("cgo", 0),)))

    def test_lines(self):
        code = beside(RICH, RICH).code
        self.assertEqual(code.ports, ((("ago", 0), ("ago", 1)), (), (("bgo", 0), ("bgo", 1)), ()))
        self.assertEqual([(name, fields_of(book)) for name, book in code.parts],
                         [(name, fields_of(CELL)) for name in ("acell", "alog", "bcell", "blog")])
        self.assertEqual([name for name, _ in code.deeds], ["ago", "astay", "bgo", "bstay"])
        self.assertEqual([told for _, told in code.deeds[:2]], [told for _, told in RICH.code.deeds])
        self.assertEqual(code.lines_of("bstay"), RICH.code.lines_of("stay"))
        self.assertEqual(code.lines_of("bgo"), tuple(lines(
            ("read", 1, 2, 7), ("write", 1, 3, 0, 2), "+", ("swap", 1, 3, 3), ("test", 0, 1, 2, 2, 1), ("test", 0, 1, 2, 3, 1, 0),
            ("count", 1, 1, 2, 2), ("count", 1, 1, 3, 2, 0), ("use", 1, 2, "put", 0), ("use", 1, 3, "get", 2), "+", ("set", 2, 1),
            ("copy", 2, 0), ("add", 2, 1, 0), ("less", 2, 1, 0), ("same", 2, 1, 0), ("jump", 15, 2), ("jump", 0), ("answer", 1))))

    def test_three_and_four(self):
        one, two, three, four = stairs(1), stairs(2), lasting_stairs(), stock_with(states=2, first=1, choices=[("go", 1, 0, 0, 1)])
        for stocks in ([one, four], [four, one], [four, four, one], [one, four, four, four], [four] * 4, [two, four, three], [four, RICH, one]):
            joined = beside(*stocks)
            self.check_plain(stocks, joined.plain)
            self.assertEqual(len(joined.code.ports), sum(len(stock.code.ports) for stock in stocks))
            self.assertEqual([name for name, _ in joined.code.deeds],
                             ["abcd"[at] + name for at, stock in enumerate(stocks) for name, _ in stock.code.deeds])
            self.assertTrue(is_exact((joined.code.rows, joined.code.ports, joined.plain.choices)))
            self.assertEqual(first_plain(joined)[1], ((),) * len(joined.code.ports))

    def test_plain_books_at_random(self):
        generator = random.Random(441)
        for _ in range(25):
            stocks = []
            for _ in range(generator.randint(2, 4)):
                stocks.append(Stock(code_with(), random_plain(generator, ["go", "hit", "x"], states=generator.randint(2, 4))))
            self.check_plain(stocks, beside(*stocks).plain)

    def test_more_than_four(self):
        one = stock_with()
        beside(one, one, one, one)
        self.refuse(Unfit, *[one] * 5)
        self.refuse(Unfit, *[one] * 6)

    def test_moduli(self):
        one = stock_with()
        for modulus in (3, 8):
            other = stock_with(modulus=modulus)
            beside(other, other)
            self.refuse(Unfit, one, other)
            self.refuse(Unfit, other, one)
            self.refuse(Unfit, other, other, one)
            self.refuse(Unfit, other, other, other, one)

    def test_unfit_before_bad_book(self):
        big = stock_with(states=600)
        self.refuse(BadBook, big, stairs(1))
        self.refuse(Unfit, *[big] * 5)
        self.refuse(Unfit, big, big, stock_with(modulus=3))

    def test_states(self):
        for sizes, fine in (((600, 1), True), ((25, 24), True), ((601 // 2, 2), True), ((1, 600, 1), True), ((8, 5, 3, 5), True),
                            ((600, 2), False), ((301, 2), False), ((25, 25), False), ((10, 61, 1), False), ((5, 5, 5, 5), False), ((601 // 7, 7, 1), True)):
            stocks = [stock_with(states=size, first=size - 1) for size in sizes]
            if fine:
                joined = beside(*stocks).plain
                self.assertEqual(joined.first, joined.states - 1)
            else:
                self.refuse(BadBook, *stocks)

    def test_bounds_of_the_code(self):
        menu = [("go", 0)]
        cells = [("p" + str(number), CELL) for number in range(3)]
        deeds = [("d" + str(number), [ANSWER]) for number in range(12)]
        told = [({"rows": [[0]] * 4}, {"rows": [[0]] * 4}, True), ({"rows": [[0]] * 4}, {"rows": [[0]] * 5}, False),
                ({"rows": [[0] * 8]}, {"rows": [[0] * 8]}, True), ({"rows": [[0] * 8, [0]]}, {"rows": [[0] * 8]}, False),
                ({"parts": cells[:2]}, {"parts": cells[:2]}, True), ({"parts": cells[:2]}, {"parts": cells}, False),
                ({"ports": [menu] * 4}, {"ports": [menu] * 4}, True), ({"ports": [menu] * 4}, {"ports": [menu] * 5}, False),
                ({"deeds": deeds, "ports": [[]]}, {"deeds": deeds, "ports": [[]]}, True),
                ({"deeds": deeds, "ports": [[]]}, {"deeds": [*deeds, ("go", [ANSWER])]}, False),
                ({"registers": 16}, {"registers": 1}, True)]
        for one, other, fine in told:
            if fine:
                self.assertEqual(beside(stock_with(**one), stock_with(**other)).code.registers, one.get("registers", 1))
            else:
                self.refuse(BadBook, stock_with(**one), stock_with(**other))
                self.refuse(BadBook, stock_with(**other), stock_with(**one))

    def test_long_names(self):
        for many, fine in ((19, True), (20, False)):
            name = "n" * many
            told = [stock_with(deeds=[(name, [ANSWER])], ports=[[]]), stock_with(parts=[(name, CELL)]),
                    stock_with(choices=[(name, 0, 0, 0, 0)])]
            for stock in told:
                if fine:
                    beside(stock, stock_with())
                    beside(stock_with(), stock)
                else:
                    self.refuse(BadBook, stock, stock_with())
                    self.refuse(BadBook, stock_with(), stock)
        # The name in a use belongs to the book of the part, and stays.
        name = "n" * 20
        part = PlainBook(1, 0, [(name, 0, 0, 0, 0)])
        stock = stock_with(parts=[("p", part)], deeds=[("go", loose(("use", 0, 0, name, 0), ("answer", 0)))])
        self.assertEqual(beside(stock, stock).code.lines_of("bgo")[0][0], ("use", 0, 1, name, 0))

    def test_empty_menus(self):
        joined = beside(stock_with(ports=[[]]), stock_with(ports=[[], [("go", 1)]]))
        self.assertEqual(joined.code.ports, ((), (), (("bgo", 1),)))
        self.assertEqual(moves_of(joined.code, first_state(joined.code)), [(0, 2, 0)])

    def test_each_stock_moves_alone(self):
        """A row of moves is one row in each stock."""
        generator = random.Random(442)
        stocks = [tally([0, 1]), broken_tally()]
        joined = beside(*stocks).code
        state = first_state(joined)
        states = [first_state(stock.code) for stock in stocks]
        for _ in range(200):
            self.assertEqual(moves_of(joined, state), moves_of(stocks[0].code, states[0]) + [
                (kind, port + 3, value) for kind, port, value in moves_of(stocks[1].code, states[1])])
            kind, port, value = move = generator.choice(moves_of(joined, state))
            state = after(joined, state, move)
            states[port // 3] = after(stocks[port // 3].code, states[port // 3], (kind, port % 3, value))
            self.assertEqual(state[0], states[0][0] + states[1][0])

    def test_the_grade_is_the_least(self):
        generator = random.Random(443)
        pool = stocks_of_all_grades(444, 24) + [stairs(2), stairs(3)]
        met = {}
        while sum(met.values()) < 40:
            stocks = [generator.choice(pool) for _ in range(2)]
            if stocks[0].plain.states * stocks[1].plain.states <= 60:
                grades = [grade for grade in map(grade_of, stocks) if grade is not None]
                grade = grade_of(beside(*stocks))
                self.assertEqual(grade, min(grades, default=None))
                met[grade] = met.get(grade, 0) + 1
        self.assertGreater(len(met), 2)
        self.assertEqual(grade_of(beside(lasting_stairs(), stairs(1), lasting_stairs())), 1)


class Tables(unittest.TestCase):
    def check(self, stocks, tables):
        table = beside_table(stocks, tables)
        self.assertIs(type(table), tuple)
        self.assertTrue(is_exact(table))
        self.assertIs(judge_table(beside(*stocks), table), True)
        self.assertEqual(len(set(table)), len(table))
        most = 1
        for one in tables:
            most *= len(one)
        self.assertLessEqual(len(table), most)
        return table

    def refuse(self, error, stocks, tables):
        with self.assertRaises(error) as caught:
            beside_table(stocks, tables)
        self.assertIs(type(caught.exception), error)

    def test_two_three_and_four(self):
        stocks = [lasting_stairs(), fused_tally(), lasting_stairs(), stock_with(ports=[[]])]
        alike = [lasting_stairs(), stock_with(ports=[[], []]), stock_with(choices=[("go", 0, 0, 0, 0)], registers=4), lasting_stairs()]
        for many in (2, 3, 4):
            self.check(alike[:many], [make_table(stock) for stock in alike[:many]])
            self.check(tuple(alike[-many:]), tuple([make_table(stock) for stock in alike[-many:]]))
        self.check([fused_tally(), fused_tally()], [make_table(stocks[1])] * 2)

    def test_random_stocks(self):
        generator = random.Random(445)
        pool = [stock for stock in stocks_of_all_grades(446, 60) if grade_of(stock) is None]
        parts = 0
        for _ in range(60):
            stocks = [generator.choice(pool) for _ in range(generator.randint(2, 3))]
            tables = [make_table(stock) for stock in stocks]
            if sum(len(stock.code.ports) for stock in stocks) < 9 and len(tables[0]) * len(tables[1]) * len(tables[-1]) < 2500:
                self.check(stocks, tables)
                parts += any(stock.code.parts for stock in stocks)
        self.assertGreater(parts, 3)

    def test_pairs_that_are_there_twice(self):
        stock = lasting_stairs()
        table = make_table(stock)
        once = self.check([stock, stock], [table, table])
        self.assertEqual(set(self.check([stock, stock], [table + table, table[::-1] + table])), set(once))

    def test_numbers_of_tables(self):
        stock = lasting_stairs()
        table = make_table(stock)
        for many in (0, 1, 3):
            self.refuse(Unfit, [stock, stock], [table] * many)

    def test_tables_that_are_not_accepted(self):
        stock = lasting_stairs()
        table = make_table(stock)
        for wrong in ((), table[1:], table[:-1], make_table(fused_tally())):
            self.refuse(Unfit, [stock, stock], [table, wrong])
            self.refuse(Unfit, [stock, stock], [wrong, table])
        self.refuse(Unfit, [stairs(1), stock], [table, table])

    def test_stocks_that_cannot_stand_side_by_side(self):
        stock = stock_with(ports=[[]])
        other = stock_with(ports=[[]], modulus=3)
        big = stock_with(ports=[[]], states=600)
        small = stock_with(ports=[[]], states=2)
        told = {id(one): make_table(one) for one in (stock, other, big, small)}
        for error, stocks in ((Unfit, [stock] * 5), (Unfit, [stock, other]), (BadBook, [big, small]), (Unfit, [big, small, other]),
                              (BadBook, [stock_with(ports=[[]] * 5)] * 2)):
            tables = [told.get(id(one)) or make_table(one) for one in stocks]
            self.refuse(error, stocks, tables)
        # Unfit goes ahead of BadBook.
        self.refuse(Unfit, [big, small], [told[id(big)]])
        self.refuse(Unfit, [big, small], [told[id(big)], ()])
