import random
import unittest

from oddskept.errors import BadBook, BadText
from oddskept.families import stairs, tally
from oddskept.plainbook import PlainBook
from oddskept.plaintext import read_plain, write_plain
from tests.helpers import fields_of, is_exact

SMALL = "states 2\nfirst 1\nchoice pick 0 7 1 0\nchoice pick 0 7 0 1\n"


class PlainTexts(unittest.TestCase):
    def refuse(self, text, line):
        with self.subTest(text), self.assertRaises(BadText) as caught:
            read_plain(text)
        self.assertEqual(caught.exception.line, line)

    def test_example(self):
        self.assertEqual(write_plain(PlainBook(2, 1, [("pick", 0, 0, 1, 0)])), "states 2\nfirst 1\nchoice pick 0 0 1 0\n")

    def test_back_and_forth(self):
        for plain in (stairs(6).plain, tally([2, 1, 0]).plain, PlainBook(1, 0, []), PlainBook(600, 599, [])):
            again = read_plain(write_plain(plain))
            self.assertEqual(fields_of(again), fields_of(plain))
            self.assertTrue(is_exact(again.choices))
            self.assertEqual(write_plain(again), write_plain(plain))

    def test_order_of_choices(self):
        self.assertEqual(read_plain(SMALL).choices, (("pick", 0, 7, 1, 0), ("pick", 0, 7, 0, 1)))
        self.assertEqual(write_plain(read_plain(SMALL)), SMALL)

    def test_no_choices(self):
        self.assertEqual(fields_of(read_plain("states 1\nfirst 0\n")), ("plain", 1, 0, ()))

    def test_long_texts(self):
        text = "states 600\nfirst 0\n" + "".join(f"choice d{deed} {at} 0 0 0\n" for deed in range(20) for at in range(600))
        self.assertEqual(write_plain(read_plain(text)), text)
        self.refuse(text + "choice\n", 12003)

    def test_last_line_feed(self):
        self.refuse(SMALL[:-1], 4)
        self.refuse("states 2", 1)
        self.refuse("wrong\n ", 2)
        self.refuse(SMALL + "x", 5)

    def test_lines_that_end_too_early(self):
        self.refuse("", 1)
        self.refuse("states 2\n", 2)

    def test_lines_where_they_may_not_stand(self):
        self.refuse("first 0\nstates 1\n", 1)
        self.refuse("choice pick 0 0 0 0\n", 1)
        self.refuse("states 1\nstates 1\n", 2)
        self.refuse("states 1\nchoice pick 0 0 0 0\n", 2)
        self.refuse("states 1\nfirst 0\nfirst 0\n", 3)
        self.refuse("states 1\nfirst 0\nstates 1\n", 3)
        self.refuse(SMALL + "first 0\n", 5)
        self.refuse(SMALL + "states 2\n", 5)

    def test_malformed_lines(self):
        told = SMALL.split("\n")[:-1]
        for at, line in enumerate(told):
            words = line.split(" ")
            wrong = ["", " ", " " + line, line + " ", "  " + line, line.replace(" ", "  ", 1), line.replace(" ", "\t", 1),
                     line + "\t", line + " 0", line + " +", words[0], " ".join(words[:-1]), words[0].upper(), "x" + line]
            for place in range(1, len(words)):
                for other in ("-1", "+1", "01", "00", "1234567890", "x.", "", "X", "1x"):
                    wrong.append(" ".join(words[:place] + [other] + words[place + 1:]))
            for other in wrong:
                self.refuse("\n".join(told[:at] + [other] + told[at + 1:]) + "\n", at + 1)
                self.refuse("\n".join(told[:at] + [other] + ["wrong"]) + "\n", at + 1)

    def test_names(self):
        for name in ("0", "9a", "Pick", "a-b", "abcdefghij0123456789x"):
            self.refuse(f"states 2\nfirst 1\nchoice {name} 0 0 0 0\n", 3)
        self.assertEqual(read_plain("states 1\nfirst 0\nchoice abcdefghij0123456789 0 0 0 0\n").states, 1)

    def test_bad_books(self):
        for text in ("states 0\nfirst 0\n", "states 601\nfirst 0\n", "states 2\nfirst 2\n", "states 999999999\nfirst 0\n",
                     SMALL.replace("0 7 1 0", "0 8 1 0"), SMALL.replace("0 7 1 0", "2 7 1 0"), SMALL + "choice pick 0 7 1 0\n",
                     SMALL.replace("0 7 1 0", "0 7 2 0"), SMALL.replace("0 7 1 0", "0 7 1 8"),
                     "states 5\nfirst 0\n" + "".join(f"choice pick 0 0 {goal} 0\n" for goal in range(5))):
            with self.subTest(text), self.assertRaises(BadBook):
                read_plain(text)

    def test_texts_ahead_of_books(self):
        self.refuse("states 0\nfirst 9\nchoice\n", 3)
        self.refuse("states 0\n", 2)

    def test_what_is_read_is_written_again(self):
        generator = random.Random(6)
        read = 0
        for _ in range(3000):
            at = generator.randrange(len(SMALL))
            text = SMALL[:at] + generator.choice(["", *"\n \t0179ak"]) + SMALL[at + generator.randint(0, 1):]
            try:
                plain = read_plain(text)
            except (BadText, BadBook):
                continue
            read += 1
            self.assertEqual(write_plain(plain), text)
        self.assertGreater(read, 100)
