import random
import unittest

from oddskept.errors import BadProgram, BadText
from oddskept.progbook import Program
from oddskept.progtext import read_program, write_program
from tests.helpers import is_exact

SMALL = """mail 3
objects 2
thread
  set 7 999
  copy 0 1
  add 2 3 4
  less 0 1 2
  same 0 1 2
  jump 6 5
  look 0 2
  leave 0 2
  send 1 0
  fetch 2 1
  throw 3 60
  print 3
  call 0 1 7 3
  jump 13
thread
  stop
"""


def fields(program):
    return (program.mail, program.objects, program.threads)


class ProgramTexts(unittest.TestCase):
    def refuse(self, text, line):
        with self.subTest(text[:300]), self.assertRaises(BadText) as caught:
            read_program(text)
        self.assertEqual(caught.exception.line, line)

    def test_read(self):
        made = read_program(SMALL)
        self.assertEqual((made.mail, made.objects, len(made.threads)), (3, 2, 2))
        self.assertEqual(made.threads[0][:3], (("set", 7, 999), ("copy", 0, 1), ("add", 2, 3, 4)))
        self.assertEqual(made.threads[0][10:], (("throw", 3, 60), ("print", 3), ("call", 0, 1, 7, 3), ("jump", 13)))
        self.assertEqual(made.threads[1], (("stop",),))
        self.assertTrue(is_exact(made.threads))

    def test_written(self):
        self.assertEqual(write_program(read_program(SMALL)), SMALL)
        self.assertEqual(write_program(Program(0, 0, [[("stop",)]])), "mail 0\nobjects 0\nthread\n  stop\n")

    def test_long_threads(self):
        made = Program(1, 0, [[("look", 0, 0)] * 9999 + [("stop",)]] * 3)
        text = write_program(made)
        self.assertEqual(text.count("\n"), 30005)
        self.assertEqual(fields(read_program(text)), fields(made))
        self.refuse(text + "  sto\n", 30006)

    def test_last_line_feed(self):
        self.refuse(SMALL[:-1], 19)
        self.refuse("mail 0", 1)
        self.refuse("wrong\nmail 0\n ", 3)

    def test_lines_that_end_too_early(self):
        self.refuse("", 1)
        self.refuse("mail 0\n", 2)

    def test_lines_where_they_may_not_stand(self):
        self.refuse("objects 0\nmail 0\n", 1)
        self.refuse("thread\n", 1)
        self.refuse("  stop\n", 1)
        self.refuse("mail 0\nmail 0\n", 2)
        self.refuse("mail 0\nthread\n", 2)
        self.refuse("mail 0\nobjects 0\n  stop\nthread\n", 3)
        self.refuse("mail 0\nobjects 0\nobjects 0\n", 3)
        self.refuse(SMALL + "mail 0\n", 20)
        self.refuse(SMALL + "objects 0\n", 20)

    def test_malformed_lines(self):
        told = SMALL.split("\n")[:-1]
        for at, line in enumerate(told):
            words = line.strip().split(" ")
            blanks = line[:len(line) - len(line.lstrip())]
            wrong = ["", " ", "  ", " " + line, line + " ", line[1:], "  " + line, line + "\t", line + " 0 0", line + " +",
                     blanks + words[0].upper(), blanks + "x" + line.strip(), blanks + words[0] + " x", "\t" + line]
            if len(words) > 1:
                wrong += [blanks + "  ".join(words), blanks + "\t".join(words), line + "\t0"]
            if words[0] != "jump":
                wrong += [line + " 0"] + ([" ".join(line.split(" ")[:-1])] if len(words) > 1 else [])
            for place in range(1, len(words)):
                for other in ("-1", "+1", "01", "00", "1234567890", "x", "1.", "1x"):
                    wrong.append(blanks + " ".join(words[:place] + [other] + words[place + 1:]))
            for other in wrong:
                self.refuse("\n".join(told[:at] + [other] + told[at + 1:]) + "\n", at + 1)
                self.refuse("\n".join(told[:at] + [other] + ["wrong"]) + "\n", at + 1)

    def test_bad_programs(self):
        for text in ("mail 0\nobjects 0\n", "mail 0\nobjects 0\nthread\n", SMALL + "thread\n",
                     "mail 0\nobjects 0\nthread\nthread\n  stop\n", SMALL.replace("mail 3", "mail 65"),
                     SMALL.replace("mail 3", "mail 2"), SMALL.replace("objects 2", "objects 5"),
                     SMALL.replace("objects 2", "objects 1"), SMALL.replace("  stop", "  set 0 0"),
                     SMALL.replace("throw 3 60", "throw 3 61"), SMALL.replace("jump 13", "jump 14"),
                     SMALL.replace("jump 13", "jump 0"), SMALL.replace("set 7 999", "set 8 999"),
                     SMALL.replace("set 7 999", "set 7 1000"), SMALL.replace("  stop", "  call 0 1 7 0\n  stop"),
                     "mail 999999999\nobjects 0\nthread\n  stop\n", "mail 0\nobjects 0\n" + 34 * "thread\n  stop\n",
                     "mail 0\nobjects 0\nthread\n" + 16001 * "  stop\n"):
            with self.subTest(text[:300]), self.assertRaises(BadProgram):
                read_program(text)

    def test_texts_ahead_of_programs(self):
        self.refuse("mail 65\nobjects 9\nthread\nthread\n  stop 0\n", 5)
        self.refuse("mail 65\n", 2)
        self.refuse("mail 65\nobjects 9", 2)

    def test_what_is_read_is_written_again(self):
        generator = random.Random(32)
        read = 0
        for _ in range(3000):
            at = generator.randrange(len(SMALL))
            text = SMALL[:at] + generator.choice(["", *"\n \t0179ak"]) + SMALL[at + generator.randint(0, 1):]
            try:
                made = read_program(text)
            except (BadText, BadProgram):
                continue
            read += 1
            self.assertEqual(write_program(made), text)
            self.assertEqual(fields(read_program(write_program(made))), fields(made))
        self.assertGreater(read, 100)
