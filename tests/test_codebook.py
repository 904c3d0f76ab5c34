import unittest

from oddskept.codebook import CodeBook
from oddskept.errors import BadBook
from oddskept.plainbook import PlainBook
from tests.helpers import ANSWER, CELL, code_with, is_exact, lines, loose
from tests.test_plainbook import BAD_NAMES, GOOD_NAMES

# Each form with operands that a book with modulus 3, 2 registers, 2 rows, 1 part and 4 lines allows.
FORMS = {
    ("read", 0, 0, 0): "rjk", ("read", 0, 0, 0, 0): "rjkr",
    ("write", 0, 0, 0): "rjk", ("write", 0, 0, 0, 0): "rjkr",
    ("swap", 0, 0, 0): "rjk", ("swap", 0, 0, 0, 0): "rjkr",
    ("test", 0, 0, 0, 0, 0): "rrrjk", ("test", 0, 0, 0, 0, 0, 0): "rrrjkr",
    ("count", 0, 0, 0, 0): "rnjk", ("count", 0, 0, 0, 0, 0): "rnjkr",
    ("use", 0, 0, "get", 0): "riDr", ("set", 0, 0): "rn", ("copy", 0, 0): "rr",
    ("add", 0, 0, 0): "rrr", ("less", 0, 0, 0): "rrr", ("same", 0, 0, 0): "rrr",
    ("jump", 0): "l", ("jump", 0, 0): "lr", ("answer", 0): "r",
}
GREATEST = {"r": 1, "j": 1, "k": 7, "n": 2, "i": 0, "l": 3}


def code_with_line(instruction):
    deed = [("go", loose(("set", 0, 0), instruction, ("set", 0, 0), ("answer", 0)))]
    return code_with(modulus=3, registers=2, rows=[[0], [0, 0]], parts=[("cell", CELL)], deeds=deed)


def used(answers):
    return PlainBook(1, 0, [("go", 0, number, 0, answer) for number, answer in enumerate(answers)])


class KeptBooks(unittest.TestCase):
    def test_fields(self):
        code = CodeBook(3, 2, [[0, 1], (2,)], [["cell", CELL]], [[["go", 0], ("go", 2)], ()],
                        [["go", [[["set", 0, 1], True], (("answer", 0), False)]]])
        self.assertEqual([code.modulus, code.registers], [3, 2])
        self.assertEqual(code.rows, ((0, 1), (2,)))
        self.assertEqual(code.parts, (("cell", CELL),))
        self.assertEqual(code.ports, ((("go", 0), ("go", 2)), ()))
        self.assertEqual(code.deeds, (("go", ((("set", 0, 1), True), (("answer", 0), False))),))
        self.assertTrue(is_exact(code.rows) and is_exact(code.ports))
        self.assertTrue(is_exact(code.deeds, (int, str, bool, tuple)))
        self.assertIs(type(code.parts[0]), tuple)

    def test_copied(self):
        rows, ports, deeds = [[0]], [[["go", 0]]], [["go", [[["set", 0, 1], False], ANSWER]]]
        code = code_with(rows=rows, ports=ports, deeds=deeds)
        rows[0][0] = 1
        ports[0][0][1] = 1
        ports.append([])
        deeds[0][1][0][0][2] = 0
        deeds[0][1].clear()
        self.assertEqual([code.rows, code.ports], [((0,),), ((("go", 0),),)])
        self.assertEqual(code.deeds, (("go", ((("set", 0, 1), False), ANSWER)),))

    def test_bounds(self):
        edges = [
            {"modulus": 2}, {"modulus": 8}, {"registers": 1}, {"registers": 16},
            {"rows": []}, {"rows": [[0]] * 8}, {"rows": [[0, 1] * 4, [1] * 8]}, {"rows": [[0, 0]] * 8},
            {"modulus": 8, "rows": [[7]]},
            {"parts": [(f"p{number}", CELL) for number in range(4)]},
            {"ports": [[]]}, {"ports": [[]] * 8}, {"modulus": 6, "ports": [[("go", number) for number in range(6)]]},
            {"ports": [[("go", 0), ("go", 1)], [("go", 1), ("go", 0)]]},
            {"deeds": [("go", [ANSWER])] + [(f"d{number}", [ANSWER]) for number in range(23)]},
            {"deeds": [("go", loose(*[("set", 0, 0)] * 159, ("answer", 0)))]},
            {"deeds": [("go", loose(("jump", 0)))]},
        ]
        for change in edges:
            with self.subTest(change):
                self.assertIsInstance(code_with(**change), CodeBook)

    def test_names(self):
        for name in GOOD_NAMES:
            code = code_with(parts=[(name, CELL)], ports=[[(name, 0)]], deeds=[(name, [ANSWER])])
            self.assertEqual([code.parts[0][0], code.deeds[0][0]], [name, name])

    def test_a_name_may_be_part_and_deed(self):
        self.assertEqual(code_with(parts=[("go", CELL)]).parts[0][0], "go")

    def test_parts_with_answers_below_the_modulus(self):
        code_with(parts=[("part", used([0, 1, 0]))])
        code_with(modulus=8, parts=[("part", used([7]))])
        code_with(parts=[("part", PlainBook(600, 0, []))])


class Instructions(unittest.TestCase):
    def test_every_form(self):
        for instruction in FORMS:
            with self.subTest(instruction):
                self.assertEqual(code_with_line(instruction).deeds[0][1][1], (instruction, False))

    def test_ranges_of_operands(self):
        for instruction, form in FORMS.items():
            for at, letter in enumerate(form, start=1):
                if letter == "D":
                    continue
                greatest = instruction[:at] + (GREATEST[letter],) + instruction[at + 1:]
                self.assertIsInstance(code_with_line(greatest), CodeBook)
                for beyond in (GREATEST[letter] + 1, -1, 10 ** 9):
                    with self.subTest(instruction=instruction, at=at, beyond=beyond), self.assertRaises(BadBook):
                        code_with_line(instruction[:at] + (beyond,) + instruction[at + 1:])

    def test_numbers_of_operands(self):
        # As many operands as some form of the word has.
        known = {(instruction[0], len(instruction)) for instruction in FORMS}
        for instruction in FORMS:
            word = instruction[0]
            for told in (instruction[:-1], instruction + (0,), instruction + (0, 0), (word,)):
                if (word, len(told)) not in known:
                    with self.subTest(told), self.assertRaises(BadBook):
                        code_with_line(told)

    def test_unknown_words(self):
        for instruction in (("look", 0, 0), ("stop",), ("", 0), ("Set", 0, 0), ("set ", 0, 0), ("rjk", 0), ("+",)):
            with self.subTest(instruction), self.assertRaises(BadBook):
                code_with_line(instruction)

    def test_names_in_uses(self):
        for name in GOOD_NAMES:
            self.assertIsInstance(code_with_line(("use", 0, 0, name, 0)), CodeBook)
        for name in BAD_NAMES:
            with self.subTest(name), self.assertRaises(BadBook):
                code_with_line(("use", 0, 0, name, 0))

    def test_whether_the_part_knows_a_deed_is_not_asked(self):
        self.assertIsInstance(code_with_line(("use", 0, 0, "unknown", 0)), CodeBook)

    def test_no_rows_and_no_parts(self):
        for instruction in (("read", 0, 0, 0), ("use", 0, 0, "get", 0)):
            with self.subTest(instruction), self.assertRaises(BadBook):
                code_with(deeds=[("go", loose(instruction, ("answer", 0)))])

    def test_a_deed_without_a_menu_is_asked_too(self):
        with self.assertRaises(BadBook):
            code_with(deeds=[("go", [ANSWER]), ("other", loose(("set", 0, 2), ("answer", 0)))])


class RefusedBooks(unittest.TestCase):
    def refuse(self, **changes):
        with self.subTest(changes), self.assertRaises(BadBook):
            code_with(**changes)

    def test_numbers(self):
        for modulus in (1, 9, 0, -2, 10 ** 9):
            self.refuse(modulus=modulus)
        for registers in (0, 17, -1, 10 ** 9):
            self.refuse(registers=registers)

    def test_rows(self):
        for rows in ([[0]] * 9, [[]], [[0], []], [[0] * 9], [[0] * 8, [0] * 8, [0]], [[0, 0]] * 7 + [[0] * 3],
                     [[2]], [[-1]], [[0], [0, 2]]):
            self.refuse(rows=rows)

    def test_parts(self):
        self.refuse(parts=[(f"p{number}", CELL) for number in range(5)])
        self.refuse(parts=[("part", CELL), ("part", CELL)])
        self.refuse(parts=[("part", CELL), ("other", CELL), ("part", used([0]))])
        self.refuse(parts=[("part", PlainBook(2, 0, [("go", 0, 0, 0, 0), ("go", 0, 0, 1, 0)]))])
        self.refuse(parts=[("cell", CELL), ("part", used([0, 2]))])
        self.refuse(modulus=7, parts=[("part", used([7]))])
        for name in BAD_NAMES:
            self.refuse(parts=[(name, CELL)])

    def test_ports(self):
        self.refuse(ports=[])
        self.refuse(ports=[[]] * 9)
        self.refuse(modulus=8, ports=[[("go", number) for number in range(7)]])
        self.refuse(ports=[[("go", 0), ("go", 1), ("go", 0)]])
        for item in (("other", 0), ("go", 2), ("go", -1), ("", 0), ("Go", 0)):
            self.refuse(ports=[[("go", 0)], [item]])

    def test_deeds(self):
        self.refuse(ports=[[]], deeds=[])
        self.refuse(deeds=[])
        self.refuse(deeds=[("go", [ANSWER])] + [(f"d{number}", [ANSWER]) for number in range(24)])
        self.refuse(deeds=[("go", [ANSWER]), ("other", [ANSWER]), ("go", [ANSWER])])
        self.refuse(deeds=[("go", [])])
        self.refuse(deeds=[("go", [ANSWER]), ("other", [])])
        self.refuse(deeds=[("go", loose(*[("set", 0, 0)] * 160, ("answer", 0)))])
        for name in BAD_NAMES:
            self.refuse(deeds=[("go", [ANSWER]), (name, [ANSWER])])
            self.refuse(ports=[[(name, 0)]], deeds=[(name, [ANSWER])])

    def test_last_lines(self):
        for last in (("set", 0, 0), ("jump", 0, 0), ("copy", 0, 0)):
            self.refuse(deeds=[("go", loose(("answer", 0), last))])
            self.refuse(deeds=[("go", loose(last))])
        code_with(deeds=[("go", loose(("answer", 0), ("jump", 0)))])

    def test_fused_answers(self):
        self.refuse(deeds=[("go", lines("+", ("answer", 0)))])
        self.refuse(deeds=[("go", lines("+", ("answer", 0), ("answer", 0)))])


class Rings(unittest.TestCase):
    def book(self, *told):
        return code_with(deeds=[("go", lines(*told))])

    def test_refused(self):
        rings = [
            ("+", ("jump", 0)),
            ("+", ("jump", 0, 0), ("answer", 0)),
            ("+", ("set", 0, 0), "+", ("jump", 0)),
            ("+", ("set", 0, 0), "+", ("jump", 0, 0), ("answer", 0)),
            (("answer", 0), "+", ("set", 0, 0), "+", ("jump", 1)),
            ("+", ("jump", 2), ("answer", 0), "+", ("jump", 0)),
            ("+", ("jump", 3, 0), ("answer", 0), ("set", 0, 0), "+", ("set", 0, 0), "+", ("jump", 0)),
            (("jump", 3), "+", ("set", 0, 1), "+", ("jump", 1, 0), ("answer", 0)),
        ]
        for told in rings:
            with self.subTest(told), self.assertRaises(BadBook):
                self.book(*told)

    def test_rings_that_are_not_fused_alone(self):
        for told in (
            (("jump", 0),),
            ("+", ("set", 0, 0), ("jump", 0)),
            (("set", 0, 0), "+", ("jump", 0)),
            ("+", ("jump", 2), ("set", 0, 0), ("jump", 0)),
            ("+", ("jump", 2, 0), "+", ("set", 0, 0), "+", ("jump", 3), ("answer", 0)),
            ("+", ("set", 0, 0), "+", ("jump", 2), ("jump", 0)),
        ):
            with self.subTest(told):
                self.assertIsInstance(self.book(*told), CodeBook)

    def test_long_rings(self):
        body = ["+", ("set", 0, 0)] * 159
        with self.assertRaises(BadBook):
            self.book(*body, "+", ("jump", 0))
        self.assertIsInstance(self.book(*body, ("jump", 0)), CodeBook)

    def test_fused_lines_that_lead_back(self):
        # From the last line back to the answer, line by line.
        back = [one for line in range(2, 160) for one in ("+", ("jump", line - 1))]
        self.assertIsInstance(self.book(("jump", 159), ("answer", 0), *back), CodeBook)
        with self.assertRaises(BadBook):
            self.book("+", ("jump", 159), "+", ("jump", 0), *back)

    def test_example(self):
        with self.assertRaises(BadBook):
            CodeBook(2, 1, [], [], [[("pick", 0)]], [("pick", [(("jump", 0, 0), True), (("answer", 0), False)])])
