import unittest

from oddskept.codebook import CodeBook
from oddskept.desk import Desk
from oddskept.edits import edited
from oddskept.errors import BadEdit
from oddskept.families import stairs, tally
from oddskept.plainbook import PlainBook
from oddskept.stocks import Stock
from oddskept.verdicts import Verdict, judge_verdict
from tests.helpers import ANSWER, CELL, code_with, fields_of, lines, loose

STOCK = Stock(
    CodeBook(3, 2, [[0, 1], [2]], [("cell", PlainBook(2, 0, [("get", 0, 0, 1, 2)]))], [[("go", 0), ("go", 1)], [], [("hit", 2)] + [("go", 2)]],
             [("go", lines(("read", 0, 0, 1), "+", ("jump", 3, 0), ("use", 0, 0, "get", 1), ("answer", 0))),
              ("hit", loose(("set", 0, 1), ("jump", 0, 1), ("answer", 1)))]),
    PlainBook(3, 1, [("go", 0, 0, 0, 0), ("go", 0, 0, 1, 1), ("other", 2, 7, 1, 7)]))


def with_fields(stock, plain=None, **fields):
    """The stock with some fields of its code changed, or with another plain book."""
    code = stock.code
    told = {"modulus": code.modulus, "registers": code.registers, "rows": code.rows, "parts": code.parts, "ports": code.ports, "deeds": code.deeds}
    return Stock(CodeBook(**{**told, **fields}), plain or stock.plain)


def with_line(deed, at, line):
    deeds = [(name, [line if (name, number) == (deed, at) else one for number, one in enumerate(told)]) for name, told in STOCK.code.deeds]
    return with_fields(STOCK, deeds=deeds)


class Edits(unittest.TestCase):
    def check(self, edit, wanted, stock=STOCK):
        before = fields_of(stock)
        told = edited(stock, edit)
        self.assertIs(type(told), Stock)
        self.assertEqual(fields_of(told), fields_of(wanted))
        self.assertEqual(fields_of(stock), before)
        desk = Desk(stock)
        self.assertIsNone(desk.edit(edit))
        self.assertEqual(fields_of(desk.stock), fields_of(wanted))
        return told

    def refuse(self, *told, stock=STOCK):
        before = fields_of(stock)
        for edit in told:
            with self.subTest(edit), self.assertRaises(BadEdit) as caught:
                edited(stock, edit)
            self.assertIs(type(caught.exception), BadEdit)
            self.assertEqual(caught.exception.index, 0)
        self.assertEqual(fields_of(stock), before)

    def test_example(self):
        stock = edited(edited(stairs(1), ("take", 0, "hit", 0)), ("put", 0, "hit", 0))
        self.assertEqual(stock.code.ports, ((("pick", 0), ("down", 0), ("hit", 0)),))

    def test_line(self):
        told = self.check(("line", "go", 0, ("write", 1, 1, 7, 0)), with_line("go", 0, (("write", 1, 1, 7, 0), False)))
        self.assertIs(told.plain, STOCK.plain)
        # The fused mark stays.
        self.check(("line", "go", 1, ("copy", 1, 0)), with_line("go", 1, (("copy", 1, 0), True)))
        self.check(("line", "go", 3, ("jump", 0)), with_line("go", 3, (("jump", 0), False)))
        self.check(("line", "hit", 1, ("use", 1, 0, "unknown", 0)), with_line("hit", 1, (("use", 1, 0, "unknown", 0), False)))
        # What is there already.
        self.check(("line", "go", 1, ("jump", 3, 0)), STOCK)
        self.check(("line", "hit", 2, ("answer", 1)), STOCK)

    def test_line_refused(self):
        self.refuse(("line", "nobody", 0, ("set", 0, 0)), ("line", "go", 4, ("set", 0, 0)), ("line", "go", -1, ("answer", 0)),
                    ("line", "hit", 3, ("set", 0, 0)), ("line", "go", 10 ** 20, ("set", 0, 0)))
        # What the book refuses: an unknown word, operands, the last line, a fused answer, a ring.
        self.refuse(("line", "go", 0, ("fly", 0)), ("line", "go", 0, ("set", 0)), ("line", "go", 0, ("set", 0, 1, 2)), ("line", "go", 0, ("set", 2, 0)),
                    ("line", "go", 0, ("set", 0, 3)), ("line", "go", 0, ("read", 0, 2, 0)), ("line", "go", 0, ("read", 0, 0, 8)),
                    ("line", "go", 0, ("use", 0, 1, "get", 0)), ("line", "go", 0, ("use", 0, 0, "Get", 0)), ("line", "go", 0, ("jump", 4)),
                    ("line", "go", 3, ("set", 0, 0)), ("line", "go", 3, ("jump", 0, 0)), ("line", "go", 1, ("answer", 0)), ("line", "go", 1, ("jump", 1)))
        ring = edited(STOCK, ("fuse", "hit", 0))
        self.refuse(("fuse", "hit", 1), stock=ring)
        self.refuse(("line", "hit", 0, ("jump", 0)), stock=ring)

    def test_fuse_and_loose(self):
        fused = self.check(("fuse", "go", 0), with_line("go", 0, (("read", 0, 0, 1), True)))
        self.check(("loose", "go", 0), STOCK, fused)
        self.check(("loose", "go", 1), with_line("go", 1, (("jump", 3, 0), False)))
        self.check(("fuse", "go", 2), with_line("go", 2, (("use", 0, 0, "get", 1), True)))
        for word in ("fuse", "loose"):
            self.refuse((word, "nobody", 0), (word, "go", 4), (word, "go", -1), (word, "hit", 3), (word, "", 0))
        self.refuse(("fuse", "go", 1), ("loose", "go", 0), ("loose", "go", 2), ("fuse", "go", 3), ("loose", "go", 3), ("fuse", "hit", 2))
        self.assertIs(type(fused.code.lines_of("go")[0][1]), bool)

    def test_value(self):
        self.check(("value", 0, 0, 2), with_fields(STOCK, rows=[[2, 1], [2]]))
        self.check(("value", 0, 1, 0), with_fields(STOCK, rows=[[0, 0], [2]]))
        self.check(("value", 1, 0, 1), with_fields(STOCK, rows=[[0, 1], [1]]))
        self.check(("value", 1, 0, 2), STOCK)
        self.refuse(("value", 2, 0, 0), ("value", -1, 0, 0), ("value", 0, 2, 0), ("value", 0, -1, 0), ("value", 1, 1, 0), ("value", 0, 0, 3), ("value", 0, 0, -1))

    def test_put(self):
        self.check(("put", 0, "hit", 1), with_fields(STOCK, ports=[[("go", 0), ("go", 1), ("hit", 1)], [], STOCK.code.ports[2]]))
        self.check(("put", 1, "go", 2), with_fields(STOCK, ports=[STOCK.code.ports[0], [("go", 2)], STOCK.code.ports[2]]))
        self.refuse(("put", 3, "go", 0), ("put", -1, "go", 0), ("put", 0, "nobody", 0), ("put", 0, "go", 0), ("put", 2, "hit", 2), ("put", 1, "go", 3),
                    ("put", 1, "go", -1))
        # A menu has at most six items.
        full = with_fields(STOCK, deeds=[*STOCK.code.deeds, ("more", [ANSWER])])
        for deed, argument in (("hit", 0), ("hit", 1), ("hit", 2), ("go", 2)):
            full = edited(full, ("put", 0, deed, argument))
        self.assertEqual(len(full.code.ports[0]), 6)
        self.refuse(("put", 0, "more", 0), stock=full)

    def test_take(self):
        self.check(("take", 0, "go", 0), with_fields(STOCK, ports=[[("go", 1)], [], STOCK.code.ports[2]]))
        self.check(("take", 0, "go", 1), with_fields(STOCK, ports=[[("go", 0)], [], STOCK.code.ports[2]]))
        self.check(("take", 2, "hit", 2), with_fields(STOCK, ports=[STOCK.code.ports[0], [], [("go", 2)]]))
        self.refuse(("take", 3, "go", 0), ("take", -1, "go", 2), ("take", 1, "go", 0), ("take", 0, "go", 2), ("take", 0, "nobody", 0), ("take", 2, "hit", 1))

    def test_allow(self):
        told = STOCK.plain.choices
        for choice in (("go", 0, 0, 2, 1), ("other", 2, 7, 1, 0), ("never", 1, 0, 0, 0), ("go", 2, 7, 2, 7)):
            made = self.check(("allow", *choice), Stock(STOCK.code, PlainBook(3, 1, [*told, choice])))
            self.assertIs(made.code, STOCK.code)
        self.refuse(*[("allow", *choice) for choice in told])
        self.refuse(("allow", "go", 3, 0, 0, 0), ("allow", "go", 0, 8, 0, 0), ("allow", "go", 0, 0, 3, 0), ("allow", "go", 0, 0, 0, 8), ("allow", "Go", 0, 0, 0, 0),
                    ("allow", "", 0, 0, 0, 0), ("allow", "go", -1, 0, 0, 0), ("allow", "go", 0, -1, 0, 0), ("allow", "go", 0, 0, -1, 0), ("allow", "go", 0, 0, 0, -1),
                    ("allow", "n" * 21, 0, 0, 0, 0))
        # At most four choices have the same deed, state and argument.
        full = edited(edited(STOCK, ("allow", "go", 0, 0, 2, 0)), ("allow", "go", 0, 0, 2, 1))
        self.refuse(("allow", "go", 0, 0, 2, 2), stock=full)

    def test_forbid(self):
        told = STOCK.plain.choices
        for at, choice in enumerate(told):
            self.check(("forbid", *choice), Stock(STOCK.code, PlainBook(3, 1, told[:at] + told[at + 1:])))
        self.refuse(("forbid", "go", 0, 0, 0, 1), ("forbid", "nobody", 0, 0, 0, 0), ("forbid", "go", -1, 0, 0, 0), ("forbid", "Go", 0, 0, 0, 0))

    def test_first(self):
        for state in (0, 1, 2):
            made = self.check(("first", state), Stock(STOCK.code, PlainBook(3, state, STOCK.plain.choices)))
            self.assertIs(made.code, STOCK.code)
        self.refuse(("first", 3), ("first", -1))

    def test_parts_stay(self):
        told = edited(STOCK, ("fuse", "go", 0)).code
        self.assertIs(told.parts[0][1], STOCK.code.parts[0][1])


class Desks(unittest.TestCase):
    def state(self, desk):
        return (fields_of(desk.stock), desk.steps_done, desk.steps_undone)

    def test_example(self):
        desk = Desk(stairs(2))
        desk.apply([("forbid", "hit", 5, 0, 0, 0), ("allow", "hit", 5, 0, 0, 1)])
        mended = desk.verdict()
        self.assertEqual([mended.grade, desk.undo(), desk.verdict().grade, desk.steps_done, desk.steps_undone, desk.undo()], [None, True, 2, 0, 1, False])

    def test_new(self):
        stock = stairs(1)
        desk = Desk(stock)
        self.assertIs(desk.stock, stock)
        self.assertEqual((desk.steps_done, desk.steps_undone), (0, 0))
        before = self.state(desk)
        self.assertIs(desk.undo(), False)
        self.assertIs(desk.again(), False)
        self.assertEqual(self.state(desk), before)

    def test_steps(self):
        desk = Desk(STOCK)
        states = [self.state(desk)[0]]
        edits = [[("first", 0)], (("fuse", "go", 0), ("value", 0, 0, 1)), [("put", 1, "go", 0), ("take", 1, "go", 0)], [("first", 0)]]
        for edit in edits:
            self.assertIsNone(desk.apply(edit))
            states.append(self.state(desk)[0])
        self.assertEqual((desk.steps_done, desk.steps_undone), (4, 0))
        self.assertEqual((desk.stock.plain.first, desk.stock.code.rows), (0, ((1, 1), (2,))))
        for done in (3, 2, 1, 0):
            self.assertIs(desk.undo(), True)
            self.assertEqual(self.state(desk), (states[done], done, 4 - done))
        self.assertIs(desk.undo(), False)
        self.assertEqual(self.state(desk), (states[0], 0, 4))
        for done in (1, 2, 3, 4):
            self.assertIs(desk.again(), True)
            self.assertEqual(self.state(desk), (states[done], done, 4 - done))
        self.assertIs(desk.again(), False)
        self.assertEqual(self.state(desk), (states[4], 4, 0))
        self.assertTrue(all(type(one) is int for one in (desk.steps_done, desk.steps_undone)))

    def test_a_new_step_drops_the_undone_ones(self):
        desk = Desk(STOCK)
        for state in (0, 1, 2):
            desk.edit(("first", state))
        desk.undo()
        desk.undo()
        self.assertIsNone(desk.edit(("fuse", "go", 0)))
        self.assertEqual((desk.steps_done, desk.steps_undone, desk.stock.plain.first), (2, 0, 0))
        self.assertIs(desk.again(), False)
        self.assertIs(desk.undo(), True)
        self.assertIs(desk.undo(), True)
        self.assertEqual(fields_of(desk.stock), fields_of(STOCK))

    def test_refused_steps(self):
        good = [("first", 0), ("fuse", "go", 0), ("value", 0, 0, 1)]
        desk = Desk(STOCK)
        desk.edit(("first", 2))
        desk.edit(("first", 1))
        desk.undo()
        before = self.state(desk)
        for many in range(4):
            for wrong in (("fuse", "go", 1), ("first", 3), ("take", 1, "go", 0), ("fuse", "go", 0) if many > 1 else ("loose", "go", 0)):
                with self.assertRaises(BadEdit) as caught:
                    desk.apply(good[:many] + [wrong] + good)
                self.assertEqual(caught.exception.index, many)
                self.assertEqual(self.state(desk), before)
        with self.assertRaises(BadEdit) as caught:
            desk.edit(("first", 3))
        self.assertEqual((caught.exception.index, self.state(desk)), (0, before))
        self.assertIs(desk.again(), True)
        self.assertEqual(desk.stock.plain.first, 1)

    def test_each_edit_is_done_on_what_the_one_before_it_gives(self):
        desk = Desk(stairs(1))
        desk.apply([("take", 0, "pick", 0), ("put", 0, "pick", 0), ("take", 0, "pick", 0)])
        self.assertEqual((desk.steps_done, desk.stock.code.ports), (1, ((("hit", 0), ("down", 0)),)))
        with self.assertRaises(BadEdit) as caught:
            desk.apply([("put", 0, "pick", 0), ("put", 0, "pick", 0)])
        self.assertEqual(caught.exception.index, 1)

    def test_empty_steps(self):
        desk = Desk(STOCK)
        desk.edit(("first", 0))
        desk.edit(("first", 2))
        desk.undo()
        before = self.state(desk)
        for edits in ([], ()):
            self.assertIsNone(desk.apply(edits))
            self.assertEqual(self.state(desk), before)
        self.assertIs(desk.again(), True)

    def test_steps_that_change_nothing_count(self):
        desk = Desk(STOCK)
        desk.edit(("first", 1))
        self.assertEqual(self.state(desk), (fields_of(STOCK), 1, 0))

    def test_what_is_passed_stays_and_is_kept(self):
        desk = Desk(STOCK)
        edits = [("first", 0), ("first", 2)]
        desk.apply(edits)
        self.assertEqual(edits, [("first", 0), ("first", 2)])
        edits.clear()
        desk.undo()
        desk.again()
        self.assertEqual(desk.stock.plain.first, 2)
        self.assertEqual(STOCK.plain.first, 1)

    def test_two_desks(self):
        one, two = Desk(STOCK), Desk(STOCK)
        one.edit(("first", 0))
        self.assertEqual((two.steps_done, two.stock.plain.first), (0, 1))

    def test_verdicts(self):
        desk = Desk(tally([0, 1]))
        for edit, grade in ((("first", 0), 1), (("fuse", "count", 0), 1), (("fuse", "count", 1), None), (("line", "count", 2, ("read", 1, 0, 0)), 0),
                            (("take", 2, "count", 0), None)):
            desk.edit(edit)
            told = desk.verdict()
            self.assertIs(type(told), Verdict)
            self.assertEqual(told.grade, grade)
            self.assertIs(judge_verdict(desk.stock, told), True)
        desk.undo()
        self.assertEqual(desk.verdict().grade, 0)

    def test_many_steps(self):
        desk = Desk(stairs(1))
        for number in range(3000):
            desk.edit(("first", number % 4))
        self.assertEqual((desk.steps_done, desk.stock.plain.first), (3000, 3))
        while desk.undo():
            pass
        self.assertEqual((desk.steps_done, desk.steps_undone), (0, 3000))
        desk.edit(("first", 2))
        self.assertEqual((desk.steps_done, desk.steps_undone), (1, 0))

    def test_waits_and_parts(self):
        stock = Stock(code_with(parts=[("cell", CELL)], deeds=[("go", loose(("use", 0, 0, "wait", 0), ("answer", 0)))]), PlainBook(1, 0, []))
        desk = Desk(stock)
        desk.edit(("line", "go", 0, ("use", 0, 0, "put", 0)))
        self.assertEqual((desk.verdict().grade, desk.stock.code.parts[0][0]), (0, "cell"))
        desk.undo()
        self.assertIsNone(desk.verdict().grade)
