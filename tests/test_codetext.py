import random
import unittest

from oddskept.codebook import CodeBook
from oddskept.codetext import read_code, write_code
from oddskept.errors import BadBook, BadText
from oddskept.families import stairs, tally
from tests.helpers import CELL, code_with, fields_of, is_exact, lines
from tests.test_codebook import FORMS

TALLY = """modulus 3
registers 3
row 0 0
port raise.0
port raise.1
port count.0
deed raise
  set 1 1
  write 1 0 0 0
  answer 1
deed count
  read 1 0 0
  add 2 2 1
  read 1 0 1
  add 2 2 1
  answer 2
"""
HEAD = "modulus 3\nregisters 2\n"
SMALL = HEAD + "row 0\npart cell\nport go.0\ndeed go\n  set 0 1 +\n  answer 0\n"


def every_form():
    told = [one for instruction in FORMS for one in (("+", instruction) if instruction[0] == "set" else (instruction,))]
    parts = [("cell", CELL), ("other", CELL)]
    ports = [[("go", 0), ("go", 2)], [], [("other", 1)]]
    deeds = [("go", lines(*told)), ("other", lines("+", ("jump", 1), ("answer", 0)))]
    return CodeBook(3, 2, [[0, 1, 2], [2]], parts, ports, deeds)


class Writing(unittest.TestCase):
    def test_tally(self):
        self.assertEqual(write_code(tally([0, 1]).code), TALLY)

    def test_all_kinds_of_lines(self):
        code = CodeBook(3, 2, [[0, 1, 2], [2]], [("cell", CELL), ("other", CELL)], [[("go", 0), ("go", 2)], []],
                        [("go", lines("+", ("use", 1, 0, "put", 0), "+", ("jump", 2, 0), ("jump", 0))),
                         ("stay", lines(("answer", 1)))])
        self.assertEqual(write_code(code), "modulus 3\nregisters 2\nrow 0 1 2\nrow 2\npart cell\npart other\n"
                         "port go.0 go.2\nport\ndeed go\n  use 1 0 put 0 +\n  jump 2 0 +\n  jump 0\ndeed stay\n  answer 1\n")


class Reading(unittest.TestCase):
    def test_back_and_forth(self):
        for code in (tally([0, 1]).code, tally([2, 0, 1]).code, stairs(2).code, every_form(), code_with()):
            text = write_code(code)
            again = read_code(text, dict(code.parts))
            self.assertEqual(fields_of(again), fields_of(code))
            self.assertEqual(write_code(again), text)
            self.assertTrue(is_exact(again.deeds, (int, str, bool, tuple)))
            self.assertTrue(is_exact(again.ports) and is_exact(again.rows))

    def test_parts(self):
        code = read_code(SMALL, {"cell": CELL, "unused": "never looked at"})
        self.assertEqual(code.parts, (("cell", CELL),))
        self.assertIs(read_code(SMALL, parts={"cell": CELL}).parts[0][1], CELL)

    def test_dict_stays(self):
        books = {"cell": CELL, "unused": CELL}
        code = read_code(SMALL, books)
        books.clear()
        self.assertEqual(code.parts[0][0], "cell")

    def test_no_parts(self):
        for parts in ({}, None):
            self.assertEqual(read_code(TALLY, parts).parts, ())
        self.assertEqual(read_code(TALLY).modulus, 3)

    def test_greatest_numbers_of_lines(self):
        deeds = "".join(f"deed d{number}\n" + "  set 0 0\n" * 159 + "  answer 0\n" for number in range(24))
        code = read_code("modulus 8\nregisters 16\n" + "row 7 7\n" * 8 + "port d0.0\n" * 8 + deeds)
        self.assertEqual(sum(len(deed) for _, deed in code.deeds), 24 * 160)

    def test_example(self):
        code = read_code("modulus 2\nregisters 1\nport pick.0\ndeed pick\n  set 0 1 +\n  answer 0\n")
        self.assertEqual([code.modulus, code.rows, code.ports, code.deeds],
                         [2, (), ((("pick", 0),),), (("pick", ((("set", 0, 1), True), (("answer", 0), False))),)])


class RefusedTexts(unittest.TestCase):
    def refuse(self, text, line, parts=None):
        with self.subTest(text), self.assertRaises(BadText) as caught:
            read_code(text, {"cell": CELL} if parts is None else parts)
        self.assertEqual(caught.exception.line, line)

    def test_example(self):
        self.refuse("modulus 2\nregisters 1\npart log\n", 3, {})

    def test_part_lines_without_books(self):
        for told in ((), (None,), ({},)):
            with self.subTest(told), self.assertRaises(BadText) as caught:
                read_code(SMALL, *told)
            self.assertEqual(caught.exception.line, 4)

    def test_last_line_feed(self):
        self.refuse("modulus", 1)
        self.refuse(SMALL[:-1], 8)
        self.refuse(SMALL + " ", 9)
        # The end is looked at ahead of a line that does not fit.
        self.refuse("wrong\nwrong\nwrong", 3)
        self.refuse("\n\nx", 3)

    def test_lines_that_end_too_early(self):
        self.refuse("", 1)
        self.refuse("modulus 3\n", 2)

    def test_a_line_that_does_not_fit_goes_ahead_of_an_early_end(self):
        self.refuse("modulus 03\n", 1)
        self.refuse("\n", 1)
        self.refuse(" \n", 1)

    def test_blanks(self):
        told = SMALL.split("\n")[:-1]
        for at, line in enumerate(told):
            depth = 2 if line.startswith(" ") else 0
            wrong = [line + " ", " " + line, "  " + line, line[1:], line.replace("\t", " ") + "\t", line + " \t", ""]
            wrong += [line[:depth] + line[depth:].replace(" ", "  ", 1), line[:depth] + line[depth:].replace(" ", "\t", 1)]
            for other in wrong:
                self.refuse("\n".join(told[:at] + [other] + told[at + 1:]) + "\n", at + 1)

    def test_empty_lines(self):
        told = SMALL.split("\n")
        for at in range(len(told)):
            self.refuse("\n".join(told[:at] + [""] + told[at:]), at + 1)

    def test_lines_where_they_may_not_stand(self):
        self.refuse("registers 2\nmodulus 3\n", 1)
        self.refuse("modulus 3\nmodulus 3\n", 2)
        self.refuse("modulus 3\nrow 0\n", 2)
        self.refuse("row 0\n", 1)
        self.refuse("deed go\n", 1)
        self.refuse("  answer 0\n", 1)
        self.refuse("modulus 3\n  answer 0\n", 2)
        order = ["row 0", "part cell", "port go.0", "deed go"]
        for late, line in enumerate(order):
            for early in order[:late]:
                self.refuse(f"{HEAD}{line}\n{early}\n", 4)
            for head in ("modulus 3", "registers 2"):
                self.refuse(f"{HEAD}{line}\n{head}\n", 4)
        for line in ["", *order[:3]]:
            text = HEAD + (f"{line}\n" if line else "")
            self.refuse(text + "  answer 0\n", text.count("\n") + 1)
        for early in order[:3] + ["modulus 3", "registers 2"]:
            self.refuse(SMALL + early + "\n", 9)

    def test_heads(self):
        for line in ("modulus", "modulus 3 3", "modulus x", "modulus -3", "modulus +3", "modulus 03", "Modulus 3",
                     "modulus 1234567890", "modulus 3.", "modulus\t3", "modulus 3 +", "modul 3"):
            self.refuse(f"{line}\nregisters 2\n", 1)
        for line in ("registers", "registers 2 2", "registers a", "registers 00", "register 2"):
            self.refuse(f"modulus 3\n{line}\n", 2)

    def test_lines_behind_the_heads(self):
        for line in ("row", "row a", "row 0 a", "row 01", "row -1", "rows 0", "row 0,0", "part", "part cell cell", "part log",
                     "part Cell", "part 0", "port go", "port go.", "port .0", "port go.0.0", "port go.00", "port go.-1",
                     "port go.0 go", "port Go.0", "port 0.0", "port go,0", "port go .0", "port go.1234567890",
                     "port go.\t0", "deed", "deed go go", "deed Go", "deed 9", "deed go.0", "deed abcdefghij0123456789x",
                     "end", "answer 0", "+", "line", "place", "port abcdefghij0123456789x.0"):
            self.refuse(f"{HEAD}{line}\n", 3)
            self.refuse(f"{HEAD}{line}\nwrong\n", 3)

    def test_instructions(self):
        known = {(instruction[0], len(instruction)) for instruction in FORMS}
        for instruction in FORMS:
            words = [str(word) for word in instruction]
            for told in (words[:-1], words + ["0"], words + ["0", "0"], words + ["x"]):
                if (told[0], len(told)) not in known or told[-1] == "x":
                    self.refuse(f"{HEAD}deed go\n  {' '.join(told)}\n", 4)
            for at in range(1, len(words)):
                for wrong in ("x", "-1", "00", "1234567890", "+"):
                    if words[at] == "get" and wrong == "x":
                        continue
                    self.refuse(f"{HEAD}deed go\n  {' '.join(words[:at] + [wrong] + words[at + 1:] + ['+', '+'])}\n", 4)
        for line in ("", "+", "+ +", "set", "set 0 1 + +", "+ set 0 1", "set + 0 1", "look 0 0", "use 0 0 Get 0", "use 0 0 0 0",
                     "use 0 get 0 0", "set 0 1+", "stop", "answer", "jump", "set 0 get", "answer 0 + 0"):
            self.refuse(f"{HEAD}deed go\n  {line}\n", 4)
        for line in (" answer 0", "   answer 0", "\tanswer 0", "answer 0", "    answer 0", " "):
            self.refuse(f"{HEAD}deed go\n{line}\n", 4)

    def test_first_line_that_does_not_fit(self):
        self.refuse(f"{HEAD}deed go\n  answer 0\n  wrong\n wrong\n", 5)

    def test_keys_that_are_no_names(self):
        self.refuse(HEAD + "part Cell\n", 3, {"Cell": CELL})

    def test_texts_ahead_of_books(self):
        self.refuse("modulus 9\nregisters 2\nrow\n", 3)
        self.refuse(SMALL.replace("modulus 3", "modulus 99") + "wrong\n", 9)


class RefusedBooks(unittest.TestCase):
    def refuse(self, text):
        with self.subTest(text), self.assertRaises(BadBook):
            read_code(text, {"cell": CELL, "other": CELL})

    def test_numbers_out_of_range(self):
        for before, behind in (("modulus 3", "modulus 9"), ("modulus 3", "modulus 0"), ("registers 2", "registers 17"),
                               ("row 0", "row 3"), ("row 0", "row 999999999"), ("go.0", "go.3"), ("set 0 1", "set 2 1"),
                               ("set 0 1", "set 0 3"), ("set 0 1", "read 0 1 0"), ("set 0 1", "read 0 0 8"),
                               ("set 0 1", "jump 2"), ("answer 0", "answer 2"), ("set 0 1", "use 0 1 get 0")):
            self.refuse(SMALL.replace(before, behind))

    def test_numbers_of_lines(self):
        self.refuse(HEAD)
        self.refuse(HEAD + "port\n")
        self.refuse(HEAD + "deed go\n  answer 0\n")
        self.refuse(HEAD + "port\ndeed go\n")
        self.refuse(HEAD + "port\ndeed go\n  answer 0\ndeed other\n")
        self.refuse(SMALL.replace("row 0\n", "row 0\n" * 9))
        self.refuse(SMALL.replace("port go.0\n", "port go.0\n" * 9))
        self.refuse(SMALL.replace("part cell\n", "part cell\n" * 2))
        self.refuse(SMALL.replace("go.0", "go.0 go.0"))
        self.refuse(SMALL + "  set 0 0\n" * 5000 + "  answer 0\n")

    def test_lines(self):
        for before, behind in (("answer 0", "answer 0 +"), ("answer 0", "set 0 0"), ("answer 0", "jump 0 0"),
                               ("answer 0", "jump 0 +"), ("go.0", "other.0"), ("deed go", "deed other")):
            self.refuse(SMALL.replace(before, behind))
        self.refuse(SMALL + "deed go\n  answer 0\n")


class AnyTexts(unittest.TestCase):
    def test_what_is_read_is_written_again(self):
        generator = random.Random(5)
        signs = "\n \t+.01239ago"
        texts = [SMALL, TALLY, write_code(every_form())]
        read = 0
        for _ in range(4000):
            text = generator.choice(texts)
            for _ in range(generator.randint(1, 2)):
                at = generator.randrange(len(text))
                text = text[:at] + generator.choice(["", generator.choice(signs)]) + text[at + generator.randint(0, 1):]
            try:
                code = read_code(text, {"cell": CELL, "other": CELL})
            except (BadText, BadBook):
                continue
            read += 1
            self.assertEqual(write_code(code), text)
        self.assertGreater(read, 100)
