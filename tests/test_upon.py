import random
import unittest

from oddskept.codebook import CodeBook
from oddskept.codestates import code_states
from oddskept.codetext import read_code, write_code
from oddskept.errors import BadBook, TooLarge, Unfit
from oddskept.families import stairs, tally
from oddskept.levels import grade_of
from oddskept.plainbook import PlainBook
from oddskept.stocks import Stock
from oddskept.upon import upon
from oddskept.wholedeeds import atomic, whole_deed
from tests.helpers import ANSWER, CELL, code_with, fields_of, lines, loose

FLAG = PlainBook(2, 0, [("lift", 0, 0, 1, 0), ("lift", 0, 1, 1, 0), ("lift", 1, 0, 1, 1), ("lift", 1, 1, 1, 1)])
BELOW = read_code("modulus 2\nregisters 2\nrow 0\nport lift.0 lift.1\ndeed lift\n  set 1 1\n  swap 1 0 0\n  answer 1\n")
ABOVE = read_code("modulus 2\nregisters 2\npart flag\nport win.0\ndeed win\n  use 1 0 lift 0\n  answer 1\n", {"flag": FLAG})
WINS = PlainBook(2, 0, [("win", 0, 0, 1, 0), ("win", 1, 0, 1, 1)])
UPPER, LOWER = Stock(ABOVE, WINS), Stock(BELOW, FLAG)


def changed(code, **fields):
    """A code book with some fields changed."""
    told = {"modulus": code.modulus, "registers": code.registers, "rows": code.rows, "parts": code.parts, "ports": code.ports, "deeds": code.deeds}
    return CodeBook(**{**told, **fields})


def some_lower(generator, ports):
    """A lower stock with one or two deeds, some with two answers, whose plain book is the atomic one."""
    words = [("read", 1, 0, 0), ("write", 0, 0, 0), ("swap", 1, 0, 0), ("count", 1, 1, 0, 0), ("set", 1, 1), ("copy", 1, 0),
             ("same", 1, 0, 1), ("read", 1, 0, 0, 1), ("test", 1, 0, 1, 0, 0)]
    deeds = []
    for name in ["ea", "eb"][:generator.randint(1, 2)]:
        told = [(generator.choice(words), generator.random() < 0.7) for _ in range(generator.randint(1, 3))]
        if generator.random() < 0.4:
            told += [(("jump", len(told) + 2, 1), generator.random() < 0.7), (("answer", 0), False)]
        deeds.append((name, told + [(("answer", 1), False)]))
    menu = [(name, value) for name, _ in deeds for value in (0, 1)]
    code = CodeBook(2, 2, [[0]] * generator.randint(1, 2), [], [menu] * ports, deeds)
    return Stock(code, atomic(code))


def some_upper(generator, lowers, ports):
    """An upper stock whose deeds use the lower plain books and cells of its own."""
    words = [("read", 1, 0, 0), ("write", 0, 0, 0), ("set", 1, 1), ("set", 0, 0), ("copy", 1, 0), ("add", 0, 0, 1)]
    for number, lower in enumerate(lowers):
        for name, _ in lower.code.deeds:
            words += [("use", generator.randrange(2), number, name, generator.randrange(2))] * 4
    deeds = []
    for name in ("ua", "ub"):
        told = generator.choices(words, k=generator.randint(1, 3)) + [("jump", 0)]
        marks = [one[0] != "use" and other[0] != "use" and generator.random() < 0.5 for one, other in zip(told, told[1:])]
        told = list(zip(told, marks))
        if generator.random() < 0.3:
            told += [(("jump", len(told) + 2, 0), False), (("set", 1, 0), generator.random() < 0.5)]
        deeds.append((name, told + [(("answer", 1), False)]))
    items = [("ua", 0), ("ub", 0), ("ua", 1), ("ub", 1)]
    menus = [generator.sample(items, generator.randint(1, 2)) for _ in range(ports)]
    code = CodeBook(2, 2, [[0]], [("p" + str(number), lower.plain) for number, lower in enumerate(lowers)], menus, deeds)
    return Stock(code, atomic(code))


def towers(seed, many, most=1500):
    """Upper stocks with zero to two lower ones, and the stocks that `upon` makes of them."""
    generator = random.Random(seed)
    while many:
        ports = generator.choice([1, 2, 2])
        lowers = [some_lower(generator, ports) for _ in range(generator.choice([0, 1, 1, 2, 2]))]
        try:
            upper = some_upper(generator, lowers, ports)
        except TooLarge:
            continue
        flat = upon(upper, lowers)
        if len(code_states(flat.code)) <= most:
            many -= 1
            yield upper, lowers, flat


class Flat(unittest.TestCase):
    def test_example(self):
        self.assertEqual(write_code(upon(UPPER, [LOWER]).code),
                         "modulus 2\nregisters 4\nrow 0\nport win.0\ndeed win\n  copy 2 0\n  set 3 1\n  swap 3 0 0\n  copy 1 3\n  jump 5\n"
                         "  set 2 0\n  set 3 0\n  answer 1\n")

    def test_the_plain_book_is_that_of_the_upper_stock(self):
        self.assertIs(upon(UPPER, (LOWER,)).plain, WINS)

    def test_without_parts(self):
        for stock in (stairs(3), tally([0, 1])):
            flat = upon(stock, [])
            self.assertEqual(fields_of(flat), fields_of(stock))

    def test_every_line(self):
        one = changed(BELOW, registers=3, rows=[[0, 1], [1]], ports=[[("e", 0), ("e", 1), ("f", 0), ("f", 1)]] * 3, deeds=[
            ("e", lines(("read", 1, 0, 1), "+", ("write", 0, 1, 0, 2), "+", ("jump", 4, 1), ("answer", 2), ("test", 0, 1, 2, 1, 3, 0), "+",
                        ("count", 0, 1, 0, 0), ("jump", 7), ("answer", 0), ("jump", 2))),
            ("f", lines(("add", 0, 1, 2), "+", ("less", 0, 1, 2), ("same", 0, 1, 2), ("copy", 1, 2), ("answer", 1)))])
        two = changed(BELOW, registers=1, rows=[[1]], ports=[[("g", 0), ("g", 1)]] * 2, deeds=[("g", loose(("swap", 0, 0, 5, 0), ("answer", 0)))])
        book = PlainBook(1, 0, [])
        upper = CodeBook(2, 2, [[0]], [("one", book), ("two", book)], [[("d", 1)], []], [
            ("d", lines(("jump", 3, 1), ("use", 1, 0, "e", 0), "+", ("read", 0, 0, 0), ("jump", 6), ("use", 0, 1, "g", 1), ("jump", 4),
                        ("use", 0, 0, "f", 0), ("answer", 1))), ("rest", loose(("answer", 0)))])
        flat = upon(Stock(upper, WINS), [Stock(one, book), Stock(two, book)]).code
        self.assertEqual((flat.modulus, flat.registers, flat.rows, flat.parts, flat.ports), (2, 5, ((0,), (0, 1), (1,), (1,)), (), ((("d", 1),), ())))
        self.assertEqual([name for name, _ in flat.deeds], ["d", "rest"])
        self.assertEqual(flat.lines_of("rest"), (ANSWER,))
        told = [instruction for instruction, _ in flat.lines_of("d")]
        self.assertEqual(told, [
            ("jump", 17, 1), ("copy", 2, 0), ("read", 3, 1, 1), ("write", 2, 2, 0, 4), ("jump", 7, 3), ("copy", 1, 4), ("jump", 13),
            ("test", 2, 3, 4, 2, 3, 2), ("count", 2, 1, 1, 0), ("jump", 10), ("copy", 1, 2), ("jump", 13), ("jump", 4),
            ("set", 2, 0), ("set", 3, 0), ("set", 4, 0), ("read", 0, 0, 0), ("jump", 24), ("copy", 2, 1), ("swap", 2, 3, 5, 2),
            ("copy", 0, 2), ("jump", 22), ("set", 2, 0), ("jump", 18), ("copy", 2, 0), ("add", 2, 3, 4), ("less", 2, 3, 4), ("same", 2, 3, 4),
            ("copy", 3, 4), ("copy", 0, 3), ("jump", 31), ("set", 2, 0), ("set", 3, 0), ("set", 4, 0), ("answer", 1)])
        self.assertEqual([at for at, (_, fused) in enumerate(flat.lines_of("d")) if fused], [3, 4, 8, 16, 26])

    def test_whole_deeds_stay(self):
        """A whole deed of the flat code gives the answer that the upper one gives over the plain objects."""
        done = 0
        for upper, lowers, flat in towers(451, 60, 10 ** 6):
            for name, _ in upper.code.deeds:
                for argument in (0, 1):
                    parts = tuple([book.first for _, book in upper.code.parts])
                    given = whole_deed(upper.code, upper.code.rows, parts, name, argument)
                    told = whole_deed(flat.code, flat.code.rows, (), name, argument)
                    self.assertIs(given is None, told is None)
                    if given is not None:
                        done += 1
                        self.assertEqual((told[0][:1], told[2]), (given[0], given[2]))
        self.assertGreater(done, 100)

    def test_registers_are_0_between_blocks(self):
        for upper, _, flat in towers(452, 15):
            for _, _, calls in code_states(flat.code):
                for call in calls:
                    line = call and flat.code.lines_of(call[0])[call[1]][0]
                    if call and (line[0] == "answer" or line[:2] == ("copy", 2)):
                        self.assertTrue(set(call[2][2:]) <= {0})

    def test_the_grade_is_at_least_the_least(self):
        met = {}
        for upper, lowers, flat in towers(453, 60, 700):
            grades = [grade for grade in map(grade_of, [upper, *lowers]) if grade is not None]
            grade = grade_of(flat)
            if grade is not None:
                self.assertGreaterEqual(grade, min(grades))
            met[min(grades, default=None), grade] = True
        self.assertGreater(len(met), 1)
        # A tally of two flags below: its count is used by the upper code.
        lower = tally([0, 1])
        menus = [[("raise", value) for value in range(3)], [("raise", value) for value in range(3)], [("count", value) for value in range(3)]]
        wide = changed(lower.code, ports=menus)
        lower = Stock(wide, atomic(wide))
        upper = CodeBook(3, 1, [], [("tally", lower.plain)], [[("up", 0)], [("up", 1)], [("see", 0)]],
                         [("up", loose(("use", 0, 0, "raise", 0), ("answer", 0))), ("see", loose(("use", 0, 0, "count", 0), ("answer", 0)))])
        upper = Stock(upper, atomic(upper))
        self.assertEqual((grade_of(upper), grade_of(lower)), (None, 1))
        self.assertEqual(grade_of(upon(upper, [lower])), 1)


class Refused(unittest.TestCase):
    def refuse(self, error, upper, lowers):
        with self.assertRaises(error) as caught:
            upon(upper, lowers)
        self.assertIs(type(caught.exception), error)

    def test_numbers_of_lowers(self):
        for lowers in ([], [LOWER, LOWER]):
            self.refuse(Unfit, UPPER, lowers)
        self.refuse(Unfit, stairs(1), [stairs(1)])

    def test_lower_codes(self):
        self.refuse(Unfit, UPPER, [Stock(changed(BELOW, parts=[("cell", CELL)]), FLAG)])
        self.refuse(Unfit, UPPER, [Stock(changed(BELOW, modulus=3), FLAG)])
        two = changed(ABOVE, ports=[[("win", 0)], [("win", 0)]])
        self.refuse(Unfit, Stock(two, WINS), [LOWER])
        # An empty menu of the upper code asks for a port, too.
        self.refuse(Unfit, Stock(changed(ABOVE, ports=[[("win", 0)], []]), WINS), [LOWER])
        more = Stock(changed(BELOW, ports=BELOW.ports * 8), FLAG)
        for stock in (UPPER, Stock(two, WINS), Stock(changed(ABOVE, ports=[[("win", 0)]] * 8), WINS)):
            self.assertEqual(upon(stock, [more]).code.ports, stock.code.ports)

    def test_lower_plain_books(self):
        for plain in (PlainBook(3, 0, FLAG.choices), PlainBook(2, 1, FLAG.choices), PlainBook(2, 0, FLAG.choices[::-1]),
                      PlainBook(2, 0, FLAG.choices[:-1]), PlainBook(2, 0, FLAG.choices + (("other", 0, 0, 0, 0),))):
            self.refuse(Unfit, UPPER, [Stock(BELOW, plain)])
        self.assertEqual(len(upon(UPPER, [Stock(BELOW, PlainBook(2, 0, list(FLAG.choices)))]).code.deeds), 1)

    def test_two_lowers_in_their_order(self):
        other = PlainBook(2, 0, FLAG.choices[:3])
        upper = Stock(changed(ABOVE, parts=[("flag", FLAG), ("other", other)]), WINS)
        upon(upper, [LOWER, Stock(BELOW, other)])
        self.refuse(Unfit, upper, [Stock(BELOW, other), LOWER])
        self.refuse(Unfit, upper, [LOWER, LOWER])

    def test_fused_uses(self):
        use, local, end = ("use", 1, 0, "lift", 0), ("set", 0, 1), ("answer", 1)
        fused = lines("+", use, local, end)
        ahead = lines("+", local, use, end)
        jumps = lines("+", ("jump", 2, 0), local, use, end)
        straight = lines("+", ("jump", 1), use, end)
        around = lines("+", ("jump", 2), use, "+", local, end)
        behind = lines(use, "+", local, end)
        for deed, fine in ((fused, False), (ahead, False), (jumps, False), (straight, False), (around, True), (behind, True)):
            upper = Stock(changed(ABOVE, deeds=[("win", deed)]), WINS)
            # Deeds that are in no menu are asked, too.
            other = Stock(changed(ABOVE, deeds=[*ABOVE.deeds, ("rest", deed)]), WINS)
            if fine:
                self.assertEqual(len(upon(upper, [LOWER]).code.deeds), 1)
                self.assertEqual(len(upon(other, [LOWER]).code.deeds), 2)
            else:
                self.refuse(Unfit, upper, [LOWER])
                self.refuse(Unfit, other, [LOWER])

    def test_deeds_that_are_not_there(self):
        wrong = ("rest", loose(("use", 0, 0, "other", 0), ("answer", 0)))
        self.refuse(Unfit, Stock(changed(ABOVE, deeds=[*ABOVE.deeds, wrong]), WINS), [LOWER])
        other = changed(BELOW, deeds=[*BELOW.deeds, ("other", [ANSWER])])
        # What is in no menu of the upper code need not be in a menu of the lower one.
        upon(Stock(changed(ABOVE, deeds=[*ABOVE.deeds, wrong]), WINS), [Stock(other, FLAG)])
        self.refuse(Unfit, Stock(changed(ABOVE, deeds=[wrong], ports=[[("rest", 0)]]), WINS), [Stock(other, FLAG)])

    def test_menus(self):
        for menu in ([("lift", 0)], [("lift", 1)], []):
            self.refuse(Unfit, UPPER, [Stock(changed(BELOW, ports=[menu]), FLAG)])
        self.assertEqual(len(upon(UPPER, [Stock(changed(BELOW, ports=[[("lift", 1), ("lift", 0)]]), FLAG)]).code.deeds), 1)
        # Each port is asked by itself.
        upper = Stock(changed(ABOVE, ports=[[("win", 0)], [], [("win", 1)]]), WINS)
        full, empty = BELOW.ports[0], ()
        for menus, fine in (([full, empty, full], True), ([full, full, empty], False), ([empty, full, full], False)):
            lower = [Stock(changed(BELOW, ports=menus), FLAG)]
            if fine:
                upon(upper, lower)
            else:
                self.refuse(Unfit, upper, lower)

    def test_registers(self):
        for above, below in ((14, 2), (15, 2), (2, 14), (2, 15), (8, 8), (16, 16)):
            upper, lower = Stock(changed(ABOVE, registers=above), WINS), Stock(changed(BELOW, registers=below), FLAG)
            if above + below <= 16:
                self.assertEqual(upon(upper, [lower]).code.registers, above + below)
            else:
                self.refuse(BadBook, upper, [lower])

    def test_rows_and_cells(self):
        for above, below, fine in (([[0]] * 7, [[0]], True), ([[0]] * 7, [[0]] * 2, False), ([[0] * 8], [[0] * 8], True), ([[0] * 8], [[0] * 8, [0]], False)):
            upper, lower = Stock(changed(ABOVE, rows=above), WINS), Stock(changed(BELOW, rows=below), FLAG)
            if fine:
                self.assertEqual(len(upon(upper, [lower]).code.rows), len(above) + len(below))
            else:
                self.refuse(BadBook, upper, [lower])

    def test_lines(self):
        # A block has 1 + 4 + 2 lines.
        use = ("use", 1, 0, "lift", 0)
        for many in (21, 22, 23):
            for rest in (5, 6, 7):
                upper = Stock(changed(ABOVE, deeds=[("win", loose(*[use] * many, *[("set", 0, 0)] * (rest - 1), ("answer", 0)))]), WINS)
                if 7 * many + rest <= 160:
                    self.assertEqual(len(upon(upper, [LOWER]).code.lines_of("win")), 7 * many + rest)
                else:
                    self.refuse(BadBook, upper, [LOWER])

    def test_unfit_before_bad_book(self):
        upper = Stock(changed(ABOVE, registers=16), WINS)
        self.refuse(BadBook, upper, [LOWER])
        self.refuse(Unfit, upper, [Stock(changed(BELOW, ports=[[("lift", 0)]]), FLAG)])
        self.refuse(Unfit, upper, [Stock(BELOW, CELL)])
