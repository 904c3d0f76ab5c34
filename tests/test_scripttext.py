import random
import unittest

from oddskept.errors import BadText
from oddskept.families import stairs, tally
from oddskept.scripts import make_script
from oddskept.scripttext import read_script, write_script
from tests.helpers import is_exact, long_stairs, random_script, stocks_of_all_grades
from tests.test_judges import LEAF, STAIRS, TALLY, deep_chain

TEXT = """place
move 0 0 0
move 2 0 0
member 2 idle
  place
  move 0 0 1
  move 1 0 0
  move 2 0 1
member 3 idle
  place
  move 0 0 2
  move 2 0 0
"""
DEEP = """place
member 0 idle =1 go.2
  place
  move 0 7 0
  member 1 idle
    place
    member 2 =0
      place
  member 999999999 a.0
    place
    move 2 999999999 0
member 5 abcdefghij0123456789.999999999
  place
"""


class ScriptTexts(unittest.TestCase):
    def refuse(self, text, line):
        with self.subTest(text[:300]), self.assertRaises(BadText) as caught:
            read_script(text)
        self.assertEqual(caught.exception.line, line)

    def same(self, script):
        """What is written is read again; scripts may be too deep for `==`."""
        text = write_script(script)
        again = read_script(text)
        self.assertEqual(write_script(again), text)
        return again

    def test_example(self):
        self.assertEqual(write_script(make_script(stairs(1))), TEXT)
        self.assertEqual(read_script(TEXT), STAIRS)
        self.assertEqual(read_script("place\nmove 0 0 0\nmember 2 idle =1\n  place\n"),
                         (((0, 0, 0),), (((2, ((), (1, 1))), ((), ())),)))

    def test_least(self):
        self.assertEqual(write_script(LEAF), "place\n")
        self.assertEqual(read_script("place\n"), LEAF)

    def test_marks_and_depths(self):
        script = read_script(DEEP)
        one, two = script[1]
        self.assertEqual((script[0], one[0], two), ((), (0, ((), (1, 1), (0, "go", 2))), ((5, ((0, "abcdefghij0123456789", 999999999),)), LEAF)))
        self.assertEqual(one[1], (((0, 7, 0),), (((1, ((),)), ((), (((2, ((1, 0),)), LEAF),))),
                                                 ((999999999, ((0, "a", 0),)), (((2, 999999999, 0),), ())))))
        self.assertTrue(is_exact(script))
        self.assertEqual(write_script(script), DEEP)

    def test_names_that_look_like_marks(self):
        text = "place\nmember 0 idle.0 place.1 member.2 move.3\n  place\n"
        self.assertEqual(read_script(text)[1][0][0], (0, ((0, "idle", 0), (0, "place", 1), (0, "member", 2), (0, "move", 3))))
        self.assertEqual(write_script(read_script(text)), text)

    def test_back_and_forth(self):
        for script in (STAIRS, TALLY, make_script(stairs(6)), make_script(tally([1, 0]))):
            self.assertEqual(self.same(script), script)
        generator = random.Random(111)
        for stock in stocks_of_all_grades(112, 12):
            for _ in range(10):
                script = random_script(generator, stock, 4)
                self.assertEqual(self.same(script), script)

    def test_deep_and_long_scripts(self):
        member = (0, ((),))
        text = write_script(deep_chain(1500, member))
        self.assertEqual(text.count("\n"), 3001)
        self.assertTrue(text.endswith(" " * 3000 + "place\n"))
        self.same(deep_chain(1500, member, STAIRS))
        self.same(make_script(long_stairs(199)))
        script = (((0, 0, 0), (2, 0, 0)) * 3000, ((member, LEAF),) * 1000)
        self.assertEqual(self.same(script), script)

    def test_last_line_feed(self):
        self.refuse(TEXT[:-1], 12)
        self.refuse("place", 1)
        self.refuse("wrong\nplace\nx", 3)
        self.refuse(" ", 1)

    def test_lines_that_end_too_early(self):
        self.refuse("", 1)
        lines = TEXT.split("\n")
        for many in range(1, 13):
            text = "".join(line + "\n" for line in lines[:many])
            if lines[many - 1].startswith("member"):
                self.refuse(text, many + 1)
            else:
                self.assertEqual(write_script(read_script(text)), text)
        self.refuse("place\nmember 0 idle\n", 3)

    def test_lines_where_they_may_not_stand(self):
        for text, line in (("move 0 0 0\n", 1), ("member 0 idle\n", 1), ("  place\n", 1), ("place\nplace\n", 2),
                           ("place\n  place\n", 2), ("place\n  move 0 0 0\n", 2), ("place\n  member 0 idle\n", 2),
                           ("place\nmember 0 idle\nplace\n", 3), ("place\nmember 0 idle\nmember 0 idle\n", 3),
                           ("place\nmember 0 idle\nmove 0 0 0\n", 3), ("place\nmember 0 idle\n  move 0 0 0\n", 3),
                           ("place\nmember 0 idle\n    place\n", 3), ("place\nmember 0 idle\n  member 0 idle\n", 3),
                           (TEXT + "place\n", 13), (TEXT + "move 0 0 0\n", 13), (TEXT + "    move 0 0 0\n", 13),
                           (TEXT + "    member 0 idle\n", 13), (TEXT + "  place\n", 13), (DEEP + "place\n", 14),
                           (DEEP[:DEEP.index("  member 999")] + "    move 0 0 0\n", 9),
                           (DEEP[:DEEP.index("  member 999")] + "        member 0 idle\n", 9),
                           (DEEP[:DEEP.index("  member 999")] + "  move 0 0 0\n", 9),
                           ("\n" + TEXT, 1), (TEXT + "\n", 13)):
            self.refuse(text, line)

    def test_members_of_every_depth(self):
        ahead = DEEP[:DEEP.index("  member 999")]
        for depth in range(4):
            blanks = "  " * depth
            text = f"{ahead}{blanks}member 0 idle\n{blanks}  place\n"
            self.assertEqual(write_script(read_script(text)), text)

    def test_malformed_lines(self):
        for whole in (TEXT, DEEP):
            told = whole.split("\n")[:-1]
            for at, line in enumerate(told):
                words = line.strip().split(" ")
                blanks = line[:len(line) - len(line.lstrip())]
                wrong = ["", " ", "  ", blanks, " " + line, line + " ", line + "\t", blanks + words[0].upper(), blanks + "x" + line.strip(),
                         "\t" + line, line + " +", blanks + words[0] + " x"]
                if blanks:
                    wrong.append(line[1:])
                if len(words) > 1:
                    wrong += [blanks + "  ".join(words), blanks + "\t".join(words), blanks + words[0]]
                if words[0] != "member":
                    wrong.append(line + " 0")
                for place in range(1, len(words)):
                    for other in ("-1", "+1", "01", "00", "1234567890", "x", ".", "=", "a.", ".1", "=x", "=01", "=-1", "A.1", "1.1", "a.01",
                                  "a.1.2", "a.1=2", "=1.2", "Idle", "idle.", "idle=0", "abcdefghij0123456789x.1", "a.1234567890"):
                        wrong.append(blanks + " ".join(words[:place] + [other] + words[place + 1:]))
                for other in wrong:
                    self.refuse("\n".join(told[:at] + [other] + told[at + 1:]) + "\n", at + 1)
                    self.refuse("\n".join(told[:at] + [other] + ["wrong"]) + "\n", at + 1)

    def test_numbers_of_words(self):
        for line in ("move 0 0", "move 0 0 0 0", "move", "member 0", "member", "member idle", "place 0", "place idle"):
            self.refuse(f"place\n{line}\n", 2)

    def test_kinds(self):
        for kind in (0, 1, 2):
            self.assertEqual(read_script(f"place\nmove {kind} 9 8\n"), (((kind, 9, 8),), ()))
        for kind in ("3", "9", "10", "02"):
            self.refuse(f"place\nmove {kind} 0 0\n", 2)

    def test_nothing_else_is_refused(self):
        text = "place\nmove 2 999999999 999999999\nmember 7 idle\n  place\nmember 7 =9 a.9 idle\n  place\nmember 0 idle\n  place\n"
        self.assertEqual(write_script(read_script(text)), text)

    def test_what_is_read_is_written_again(self):
        generator = random.Random(113)
        read = 0
        for _ in range(4000):
            whole = generator.choice([TEXT, DEEP])
            at = generator.randrange(len(whole))
            text = whole[:at] + generator.choice(["", *"\n \t0179ak=."]) + whole[at + generator.randint(0, 1):]
            try:
                script = read_script(text)
            except BadText as error:
                self.assertTrue(1 <= error.line <= text.count("\n") + 1)
                continue
            read += 1
            self.assertEqual(write_script(script), text)
        self.assertGreater(read, 200)
