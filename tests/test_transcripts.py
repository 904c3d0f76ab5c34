import random
import unittest

from oddskept.errors import BadText
from oddskept.plans import Run, outcomes, run_plan
from oddskept.shares import Share
from oddskept.transcripts import read_run, write_run
from tests.helpers import is_exact
from tests.test_plans import HALL, PLAN, dice, all_sides

TEXT = """chance 1/2
0 0 side 1
1 0 own 1
1 1 own 1
0 3 print 999
2 15999 begin 5
32 7 end 7
"""


def fields(run):
    return (run.chance.top, run.chance.bottom, run.trace, run.prints, run.sides)


class Transcripts(unittest.TestCase):
    def refuse(self, text, line):
        with self.subTest(text[:300]), self.assertRaises(BadText) as caught:
            read_run(text)
        self.assertEqual(caught.exception.line, line)

    def test_written(self):
        self.assertEqual(write_run(run_plan(HALL, PLAN, [1])), "chance 1/2\n0 0 side 1\n1 0 own 1\n1 1 own 1\n0 1 own 1\n0 2 own 1\n0 3 print 1\n")
        self.assertEqual(write_run(Run(Share(1), [])), "chance 1/1\n")

    def test_read(self):
        run = read_run(TEXT)
        self.assertEqual(run.chance, Share(1, 2))
        self.assertEqual(run.trace, ((0, 0, "side", 1), (1, 0, "own", 1), (1, 1, "own", 1), (0, 3, "print", 999), (2, 15999, "begin", 5),
                                     (32, 7, "end", 7)))
        self.assertEqual((run.prints, run.sides), ((999,), (1,)))
        self.assertTrue(is_exact(run.trace))
        self.assertIs(type(run), Run)
        self.assertEqual(write_run(run), TEXT)

    def test_no_events(self):
        run = read_run("chance 0/1\n")
        self.assertEqual((run.chance, run.trace, run.prints, run.sides), (Share(0), (), (), ()))

    def test_whatever_a_share_is(self):
        for share in ("-1/2", "0/1", "3/1", "-7/1", "9" * 60 + "/1", "-1/" + "9" * 60):
            self.assertEqual(write_run(read_run(f"chance {share}\n")), f"chance {share}\n")
        for share in ("2/4", "-0/1", "+1/2", "01/2", "1/0", "1", "/", "1/", "/2", "1/-2", "1/2/3", "x", "0.5", "1/02", "--1/2",
                      "9" * 61 + "/1", "1/" + "9" * 61):
            self.refuse(f"chance {share}\n", 1)
            self.refuse(f"chance {share}\nwrong\n", 1)

    def test_chances_with_many_digits(self):
        run = Run(Share(1, 2 ** 240), [(0, 0, "own", 0)])
        text = write_run(run)
        self.assertEqual(text, f"chance 1/{2 ** 240}\n0 0 own 0\n")
        self.refuse(text, 1)

    def test_events_are_not_compared_with_a_program(self):
        text = "chance 3/1\n999999999 999999999 side 999999999\n0 0 end 8\n0 0 end 8\n0 0 print 123456789\n"
        self.assertEqual(write_run(read_run(text)), text)

    def test_back_and_forth(self):
        for run in [*outcomes(HALL, PLAN), *outcomes(dice(2, 3, 5), all_sides([2, 3, 5]))]:
            self.assertEqual(fields(read_run(write_run(run))), fields(run))

    def test_long_runs(self):
        run = Run(Share(1), [(0, 0, "own", 0)] * 20000)
        text = write_run(run)
        self.assertEqual(fields(read_run(text)), fields(run))
        self.refuse(text + "0 0 own\n", 20002)

    def test_last_line_feed(self):
        self.refuse(TEXT[:-1], 7)
        self.refuse("chance 1/2", 1)
        self.refuse("wrong\nx", 2)

    def test_lines_that_end_too_early(self):
        self.refuse("", 1)

    def test_lines_where_they_may_not_stand(self):
        self.refuse("0 0 own 0\n", 1)
        self.refuse("0 0 own 0\nchance 1/2\n", 1)
        self.refuse("chance 1/2\nchance 1/2\n", 2)
        self.refuse(TEXT + "chance 1/2\n", 8)
        self.refuse("\n" + TEXT, 1)
        self.refuse(TEXT + "\n", 8)

    def test_malformed_lines(self):
        told = TEXT.split("\n")[:-1]
        for at, line in enumerate(told):
            words = line.split(" ")
            wrong = ["", " ", " " + line, "  " + line, line + " ", line + "\t", line.replace(" ", "  ", 1), line.replace(" ", "\t", 1),
                     line + " 0", line + " +", words[0], " ".join(words[:-1]), "x" + line, line.upper()]
            for place in range(len(words)):
                others = ["-1", "+1", "01", "00", "1234567890", "x", "", "1."]
                if len(words) == 4 and place == 2:
                    others += ["Own", "step", "take", "sides", "own.", "0", "chance"]
                for other in others:
                    wrong.append(" ".join(words[:place] + [other] + words[place + 1:]))
            for other in wrong:
                self.refuse("\n".join(told[:at] + [other] + told[at + 1:]) + "\n", at + 1)
                self.refuse("\n".join(told[:at] + [other] + ["wrong"]) + "\n", at + 1)

    def test_what_is_read_is_written_again(self):
        generator = random.Random(131)
        read = 0
        for _ in range(3000):
            at = generator.randrange(len(TEXT))
            text = TEXT[:at] + generator.choice(["", *"\n \t0179ak/-"]) + TEXT[at + generator.randint(0, 1):]
            try:
                run = read_run(text)
            except BadText:
                continue
            read += 1
            self.assertEqual(write_run(run), text)
        self.assertGreater(read, 200)
