import random
import unittest

from oddskept.codetext import write_code
from oddskept.desk import Desk
from oddskept.edits import edited
from oddskept.errors import BadBook, BadEdit, BadText, OddsError
from oddskept.families import stairs, tally
from oddskept.plainbook import PlainBook
from oddskept.plaintext import write_plain
from oddskept.stocks import Stock
from oddskept.store import read_desk, read_stock, write_desk, write_stock
from tests.helpers import CELL, code_with, fields_of, loose, random_code, random_plain
from tests.test_edits import STOCK, with_fields

LOG = PlainBook(3, 2, [("log", 2, 0, 1, 1), ("log", 1, 1, 0, 0)])
TWO = Stock(code_with(parts=[("cell", CELL), ("log", LOG)], deeds=[("go", loose(("use", 0, 0, "get", 0), ("use", 0, 1, "log", 0), ("answer", 0)))]),
            PlainBook(1, 0, [("go", 0, 0, 0, 1)]))
SMALL = ["code 6", "modulus 2", "registers 1", "port go.0", "deed go", "  set 0 1", "  answer 0", "plain 3", "states 1", "first 0", "choice go 0 0 0 1"]
PARTED = ["code 6", "modulus 2", "registers 1", "part cell", "port go.0", "deed go", "  answer 0", "book 2", "states 1", "first 0",
          "plain 2", "states 1", "first 0"]
EDITS = [("line", "go", 0, ("write", 1, 1, 7, 0)), ("line", "go", 1, ("copy", 1, 0)), ("line", "hit", 1, ("use", 1, 0, "unknown", 0)), ("fuse", "go", 0),
         ("loose", "go", 0), ("value", 0, 1, 2), ("put", 1, "go", 2), ("take", 1, "go", 2), ("allow", "never", 1, 7, 0, 7), ("forbid", "never", 1, 7, 0, 7),
         ("first", 0)]


def text_of(lines):
    return "".join([line + "\n" for line in lines])


def with_line(lines, at, *told):
    """The lines with others for the one with this number, counted from 1."""
    return [*lines[:at - 1], *told, *lines[at:]]


class Checks(unittest.TestCase):
    def refuse(self, read, text, line):
        with self.subTest(text), self.assertRaises(BadText) as caught:
            read(text)
        self.assertIs(type(caught.exception), BadText)
        self.assertEqual(caught.exception.line, line)
        self.assertIs(type(caught.exception.line), int)

    def refuse_book(self, read, text):
        with self.subTest(text), self.assertRaises(BadBook) as caught:
            read(text)
        self.assertIs(type(caught.exception), BadBook)


class Stocks(Checks):
    def check(self, stock):
        text = write_stock(stock)
        told = read_stock(text)
        self.assertIs(type(told), Stock)
        self.assertEqual(fields_of(told), fields_of(stock))
        self.assertEqual(write_stock(told), text)
        return text

    def bad(self, lines, at):
        self.refuse(read_stock, text_of(lines), at)

    def test_written(self):
        self.assertEqual(write_stock(read_stock(text_of(SMALL))), text_of(SMALL))
        self.assertEqual(write_stock(stairs(1)), "code 10\n" + write_code(stairs(1).code) + "plain 15\n" + write_plain(stairs(1).plain))
        self.assertEqual(self.check(TWO).split("\n"), ["code 9", *write_code(TWO.code).split("\n")[:-1], "book 9", *write_plain(CELL).split("\n")[:-1],
                                                       "book 4", *write_plain(LOG).split("\n")[:-1], "plain 3", "states 1", "first 0", "choice go 0 0 0 1", ""])

    def test_round(self):
        generator = random.Random(491)
        for stock in [STOCK, TWO, tally([2, 0, 1]), stairs(6), Stock(code_with(ports=[[], []]), PlainBook(600, 599, []))]:
            self.check(stock)
        for _ in range(40):
            self.check(Stock(random_code(generator), random_plain(generator, ["go", "hit", "x"])))

    def test_example(self):
        self.refuse(read_stock, "code 0\nplain 0\n", 2)

    def test_the_end_of_the_text(self):
        text = text_of(SMALL)
        self.refuse(read_stock, text[:-1], 11)
        self.refuse(read_stock, text[:-1] + " ", 11)
        self.refuse(read_stock, text + " ", 12)
        self.refuse(read_stock, "x", 1)
        self.refuse(read_stock, "x\n\nx", 3)
        self.refuse(read_stock, "", 1)
        # It goes ahead of all the rest.
        self.refuse(read_stock, "nothing\n" * 5 + "x", 6)

    def test_head_lines(self):
        for head in ("", "code", "code  6", " code 6", "code 6 ", "code 06", "code -1", "code x", "code 6 6", "Code 6", "book 6", "plain 6", "code 1000000000", "code +6"):
            self.bad(with_line(SMALL, 1, head), 1)
        for head in ("", "plain", "plain  3", " plain 3", "plain 3 ", "plain 03", "code 3", "choice 3", "plain x", "plain 3 3", "desk 3", "done 3"):
            self.bad(with_line(SMALL, 8, head), 8)

    def test_numbers_of_head_lines(self):
        # One more or one less, and far too many.
        self.bad(with_line(SMALL, 1, "code 7"), 9)
        self.bad(with_line(SMALL, 1, "code 5"), 7)
        self.bad(with_line(SMALL, 1, "code 0"), 2)
        self.bad(with_line(SMALL, 8, "plain 4"), 12)
        self.bad(with_line(SMALL, 8, "plain 2"), 11)
        self.bad(with_line(SMALL, 8, "plain 0"), 9)
        for many in ("10", "11", "999999999"):
            self.bad(with_line(SMALL, 1, f"code {many}"), 12)
            self.bad(with_line(SMALL, 8, f"plain {many}"), 12)
        self.bad(["code 0"], 2)
        self.bad(["code 1"], 2)
        self.bad(["code 999999999"], 2)
        self.bad(SMALL[:7], 8)
        self.bad(SMALL[:4], 5)
        self.bad([*SMALL, "plain 0"], 12)
        self.bad([*SMALL, ""], 12)
        self.bad([*SMALL, "first 0"], 12)

    def test_numbers_of_books(self):
        self.assertEqual(write_stock(read_stock(text_of(PARTED))), text_of(PARTED))
        without = PARTED[:7] + PARTED[10:]
        self.bad(without, 8)
        self.bad(PARTED[:10] + PARTED[7:], 14)
        self.bad(PARTED[:10] + PARTED[7:10] + PARTED[7:], 17)
        self.bad(PARTED[:10], 11)
        self.bad(PARTED[:8], 9)
        self.bad(PARTED[:7], 8)
        self.bad(with_line(PARTED, 8, "book 3"), 12)
        self.bad(with_line(PARTED, 8, "book 1"), 10)
        self.bad(with_line(PARTED, 8, "plain 2"), 8)
        self.bad(with_line(PARTED, 11, "book 2"), 14)
        self.bad(SMALL[:7] + PARTED[7:10] + SMALL[7:], 11)

    def test_lines_whose_first_word_is_part(self):
        # Each such line asks for a book, however malformed it is.
        for line in ("part", "part ", "part  cell", "part cell cell", "part Cell", "part cell +"):
            self.bad(with_line(PARTED, 4, line), 4)
        self.bad(with_line(PARTED, 4, "parts cell"), 11)
        self.bad(with_line(PARTED, 4, " part cell"), 11)
        for line in ("parts cell", " part cell", "part\tcell"):
            self.bad([*with_line(PARTED, 4, line)[:7], *PARTED[10:]], 4)
        # Where it may not stand, it asks for one, too.
        late = [*PARTED[:3], *PARTED[4:7], "part cell", *PARTED[7:]]
        self.bad(late, 7)

    def test_two_parts_in_their_order(self):
        text = write_stock(TWO)
        told = read_stock(text).code.parts
        self.assertEqual([(name, book.states) for name, book in told], [("cell", 2), ("log", 3)])
        lines = text.split("\n")[:-1]
        cell, log = lines[10:20], lines[20:25]
        self.assertEqual((cell[0], log[0]), ("book 9", "book 4"))
        swapped = read_stock(text_of(lines[:10] + log + cell + lines[25:])).code.parts
        self.assertEqual([(name, book.states) for name, book in swapped], [("cell", 3), ("log", 2)])
        # Two parts with one name are refused by the book.
        self.refuse_book(read_stock, text.replace("part log", "part cell"))

    def test_lines_within_sections(self):
        for at, line in ((2, "modulus  2"), (2, "modulus"), (3, "register 1"), (4, "port go"), (5, " deed go"), (6, "  set 0"), (6, " set 0 1"), (7, "  answer 0 "),
                         (7, ""), (9, "first 0"), (9, "states 01"), (10, "states 1"), (11, "choice go 0 0 0"), (11, "choice go 0 0 0  1"), (11, "  answer 0")):
            self.bad(with_line(SMALL, at, line), at)
        for at, line in ((8, "book 2 2"), (9, "states"), (10, "first -1"), (12, "states 1 1"), (13, "choice go 0 0 0 1")):
            self.bad(with_line(PARTED, at, line), at)

    def test_sections_that_end_too_early(self):
        self.bad(["code 0", *SMALL[7:]], 2)
        self.bad(["code 1", SMALL[1], *SMALL[7:]], 3)
        self.bad([*SMALL[:7], "plain 0"], 9)
        self.bad([*SMALL[:7], "plain 1", "states 1"], 10)
        self.bad([*PARTED[:7], "book 0", *PARTED[10:]], 9)
        self.bad([*PARTED[:7], "book 1", "states 1", *PARTED[10:]], 10)

    def test_what_books_refuse(self):
        for at, line in ((2, "modulus 9"), (3, "registers 0"), (4, "port go.2"), (6, "  set 0 2"), (7, "  answer 1"), (9, "states 0"), (9, "states 601"),
                         (10, "first 1"), (11, "choice go 0 0 0 8")):
            self.refuse_book(read_stock, text_of(with_line(SMALL, at, line)))
        # A deed without lines, a text without ports.
        self.refuse_book(read_stock, text_of(["code 4", *SMALL[1:5], *SMALL[7:]]))
        self.refuse_book(read_stock, text_of(["code 2", *SMALL[1:3], *SMALL[7:]]))
        # A part that can choose.
        choices = ["choice go 0 0 0 0", "choice go 0 0 0 1"]
        self.refuse_book(read_stock, text_of([*PARTED[:7], "book 4", *PARTED[8:10], *choices, *PARTED[10:]]))

    def test_the_order(self):
        # The end of the text, the head lines, the books, the code, the plain book.
        bad_code, bad_book, bad_plain = (5, "port  go.0"), (9, "states  1"), (12, "states  1")
        wrong_code, wrong_book, wrong_plain = (2, "modulus 1"), (9, "states 0"), (12, "states 0")
        def told(*changes):
            lines = PARTED
            for at, line in changes:
                lines = with_line(lines, at, line)
            return text_of(lines)
        self.refuse(read_stock, told(bad_code, bad_book, bad_plain) + "x", 14)
        self.refuse(read_stock, told(bad_code, bad_book, bad_plain) + "x\n", 14)
        self.refuse(read_stock, told(bad_code, bad_book, bad_plain), 9)
        self.refuse(read_stock, told(bad_code, bad_plain), 5)
        self.refuse(read_stock, told(bad_plain), 12)
        self.refuse_book(read_stock, told(bad_code, wrong_book, bad_plain))
        self.refuse_book(read_stock, told(wrong_code, wrong_book))
        self.refuse(read_stock, told(bad_code, wrong_plain), 5)
        self.refuse_book(read_stock, told(wrong_code, bad_plain))
        self.refuse(read_stock, told(wrong_code, bad_book), 9)
        self.refuse_book(read_stock, told(wrong_plain))
        # A head line is refused ahead of an earlier line, and ahead of a BadBook.
        self.refuse(read_stock, told(bad_code, (11, "plain  2")), 11)
        self.refuse(read_stock, told(wrong_book, (11, "plain 3")), 14)
        # The first book goes ahead of the second one.
        lines = write_stock(TWO).split("\n")[:-1]
        self.bad(with_line(with_line(lines, 12, "states  2"), 22, "states  3"), 12)
        self.refuse_book(read_stock, text_of(with_line(with_line(lines, 12, "states 1"), 22, "states  3")))

    def test_changed_texts(self):
        """Whatever is read without an error is written as it was read."""
        generator = random.Random(492)
        stocks = [TWO, STOCK, stairs(1)]
        met = [0, 0, 0]
        for _ in range(1500):
            lines = write_stock(generator.choice(stocks)).split("\n")[:-1]
            for _ in range(generator.randint(1, 2)):
                at = generator.randrange(len(lines))
                words = lines[at].split(" ")
                words[generator.randrange(len(words))] = generator.choice(["0", "1", "2", "7", "", "go", "part", "+", "x", str(len(lines))])
                lines[at:at + 1] = generator.choice([[], [lines[at]] * 2, [" ".join(words)], [" ".join(words)], [" ".join(words)], [lines[at] + " "], [""],
                                                     [generator.choice(lines)]])
            text = text_of(lines)
            try:
                stock = read_stock(text)
            except BadText as error:
                self.assertTrue(1 <= error.line <= len(lines) + 1)
                met[0] += 1
            except BadBook:
                met[1] += 1
            else:
                self.assertEqual(write_stock(stock), text)
                met[2] += 1
        self.assertGreater(min(met), 30)


class Desks(Checks):
    def check(self, desk):
        text = write_desk(desk)
        told = read_desk(text)
        self.assertIs(type(told), Desk)
        self.assertEqual((fields_of(told.stock), told.steps_done, told.steps_undone), (fields_of(desk.stock), desk.steps_done, desk.steps_undone))
        self.assertEqual(write_desk(told), text)
        # The same steps, done and undone, and the same first stock.
        done = desk.steps_done
        for one in (desk, told):
            while one.undo():
                pass
        self.assertEqual(fields_of(told.stock), fields_of(desk.stock))
        while desk.again():
            self.assertTrue(told.again())
            self.assertEqual(fields_of(told.stock), fields_of(desk.stock))
        self.assertFalse(told.again())
        while desk.steps_done > done:
            desk.undo()
        self.assertEqual(write_desk(desk), text)
        return text

    def bad(self, lines, at):
        self.refuse(read_desk, text_of(lines), at)

    def test_example(self):
        desk = Desk(stairs(1))
        desk.edit(("first", 0))
        desk.apply([("forbid", "hit", 2, 0, 0, 0), ("allow", "hit", 2, 0, 0, 1)])
        desk.undo()
        lines = write_desk(desk).split("\n")
        self.assertEqual([lines[:2], lines[12], lines[28:]], [["desk 27", "code 10"], "plain 15", [
            "step 1", "first 0", "step 2", "forbid hit 2 0 0 0", "allow hit 2 0 0 1", "done 1", ""]])
        self.check(desk)

    def test_new_desks(self):
        for stock in (STOCK, TWO, stairs(2)):
            self.assertEqual(self.check(Desk(stock)).split("\n")[-2], "done 0")

    def test_all_forms_of_edits(self):
        desk = Desk(STOCK)
        desk.apply(EDITS)
        for edit in (("loose", "go", 1), ("line", "go", 0, ("test", 0, 1, 0, 0, 7)), ("line", "go", 0, ("test", 0, 1, 0, 0, 7, 1)), ("line", "go", 0, ("count", 0, 2, 1, 0))):
            desk.edit(edit)
        lines = self.check(desk).split("\n")[-len(EDITS) - 11:]
        self.assertEqual(lines, [
            "step 11", "line go 0 write 1 1 7 0", "line go 1 copy 1 0", "line hit 1 use 1 0 unknown 0", "fuse go 0", "loose go 0", "value 0 1 2", "put 1 go 2",
            "take 1 go 2", "allow never 1 7 0 7", "forbid never 1 7 0 7", "first 0", "step 1", "loose go 1", "step 1", "line go 0 test 0 1 0 0 7", "step 1",
            "line go 0 test 0 1 0 0 7 1", "step 1", "line go 0 count 0 2 1 0", "done 5", ""])

    def test_undone_steps(self):
        desk = Desk(STOCK)
        for state in (0, 1, 2):
            desk.apply([("first", state), ("value", 0, 0, state)])
        for done in (3, 2, 1, 0):
            self.assertEqual(self.check(desk).split("\n")[-2], f"done {done}")
            desk.undo()
        desk.again()
        desk.edit(("fuse", "go", 0))
        self.assertEqual(self.check(desk).split("\n")[-6:], ["first 0", "value 0 0 0", "step 1", "fuse go 0", "done 2", ""])

    def test_a_desk_that_was_read_goes_on(self):
        desk = Desk(STOCK)
        desk.edit(("first", 0))
        desk.undo()
        told = read_desk(write_desk(desk))
        told.edit(("first", 2))
        self.assertEqual((told.steps_done, told.steps_undone, told.stock.plain.first), (1, 0, 2))
        self.assertEqual((desk.steps_done, desk.steps_undone), (0, 1))

    def setUp(self):
        self.lines = ["desk 11", *SMALL, "step 2", "first 0", "fuse go 0", "step 1", "loose go 0", "done 1"]

    def test_right(self):
        desk = read_desk(text_of(self.lines))
        self.assertEqual((desk.steps_done, desk.steps_undone, write_desk(desk)), (1, 1, text_of(self.lines)))

    def test_the_end_of_the_text(self):
        text = text_of(self.lines)
        self.refuse(read_desk, text[:-1], 18)
        self.refuse(read_desk, text + " ", 19)
        self.refuse(read_desk, "", 1)
        self.refuse(read_desk, "x\ny", 2)

    def test_head_lines(self):
        for head in ("", "desk", "desk  11", " desk 11", "desk 11 ", "desk 011", "code 11", "desk x", "step 11", "done 0", "desk 11 11"):
            self.bad(with_line(self.lines, 1, head), 1)
        for head in ("", "step", "step  2", "step 2 ", "step 02", "step 0", "desk 2", "Step 2", "step x", "first 0", "code 2", "done 1", "done"):
            self.bad(with_line(self.lines, 13, head), 13)
        for head in ("", "done", "done  1", "done 1 ", "done 01", "done 3", "done 999999999", "done x", "undone 1"):
            self.bad(with_line(self.lines, 18, head), 18)
        for done in (0, 1, 2):
            self.assertEqual(read_desk(text_of(with_line(self.lines, 18, f"done {done}"))).steps_done, done)

    def test_numbers_of_head_lines(self):
        self.bad(with_line(self.lines, 1, "desk 12"), 14)
        self.bad(with_line(self.lines, 1, "desk 10"), 12)
        self.bad(with_line(self.lines, 1, "desk 0"), 2)
        for many in ("17", "18", "999999999"):
            self.bad(with_line(self.lines, 1, f"desk {many}"), 19)
        self.bad(with_line(self.lines, 13, "step 3"), 17)
        self.bad(with_line(self.lines, 13, "step 1"), 15)
        self.bad(with_line(self.lines, 16, "step 2"), 19)
        self.bad(with_line(self.lines, 16, "step 3"), 19)
        self.bad(with_line(self.lines, 16, "step 999999999"), 19)
        self.bad(with_line(self.lines, 16, "step 0"), 16)
        self.bad(self.lines[:-1], 18)
        self.bad(self.lines[:12], 13)
        self.bad(self.lines[:13], 14)
        self.bad(["desk 0"], 2)
        self.bad(["desk 0", "done 0"], 2)
        for more in ("done 1", "step 1", "", "first 0"):
            self.bad([*self.lines, more], 19)
        self.bad([*self.lines[:12], "done 0", *self.lines[12:]], 14)
        self.bad([*self.lines[:12], "done 1", *self.lines[12:]], 13)

    def test_the_stock(self):
        for at in range(1, 12):
            self.bad(with_line(self.lines, at + 1, SMALL[at - 1] + " "), at + 1)
        self.bad(["desk 10", *self.lines[1:11], *self.lines[12:]], 12)
        self.bad(with_line(self.lines, 9, "plain 2"), 12)
        self.bad(with_line(self.lines, 9, "plain 4"), 13)
        self.bad(["desk 1", "code 0", "done 0"], 3)
        self.refuse_book(read_desk, text_of(with_line(self.lines, 3, "modulus 9")))

    def test_lines_of_edits(self):
        wrong = ["", "first", "first 0 0", "first  0", " first 0", "first 0 ", "first 00", "first -1", "first x", "First 0", "fuse go", "fuse go 0 0", "fuse Go 0", "fuse 0 go",
                 "loose go +", "value 0 0", "value 0 0 0 0", "value go 0 0", "put go 0 0", "put 0 go", "put 0 go 0 0", "take 0 go x", "take 0 go.0", "allow go 0 0 0",
                 "allow go 0 0 0 0 0", "forbid 0 0 0 0 0", "line go 0", "line go", "line", "line go 0 fly 0", "line go 0 set 0", "line go 0 set 0 1 +", "line go 0 +",
                 "line go x set 0 1", "line Go 0 set 0 1", "line go 0  set 0 1", "line go 0 use 0 0 Get 0", "line go 0 set 0 -1", "unknown 0", "step 1", "choice go 0 0 0 0"]
        for line in wrong:
            self.bad(with_line(self.lines, 14, line), 14)
            self.bad(with_line(self.lines, 15, line), 15)
            self.bad(with_line(self.lines, 17, line), 17)

    def test_edits_that_are_refused(self):
        for line in ("first 1", "fuse go 1", "fuse nobody 0", "loose go 0", "value 0 0 0", "put 0 go 0", "put 0 go 2", "take 0 go 1", "take 1 go 0", "allow go 0 0 0 1",
                     "allow go 0 8 0 0", "forbid go 0 0 0 0", "line go 2 set 0 0", "line go 1 set 0 0", "line go 0 set 1 0", "line go 0 jump 2", "line nobody 0 set 0 0",
                     "line go 0 use 0 0 get 0", "first 999999999"):
            self.bad(with_line(self.lines, 14, line), 14)
        # Each edit is done on what the edits before it give, of undone steps, too.
        self.bad(with_line(self.lines, 15, "loose go 0"), 15)
        self.bad(with_line(self.lines, 17, "fuse go 0"), 17)
        self.bad(with_line(with_line(self.lines, 18, "done 0"), 17, "fuse go 0"), 17)
        self.bad(with_line(self.lines, 14, "line go 0 read 0 0 0"), 14)

    def test_the_first_wrong_line(self):
        """A refused edit goes ahead of a malformed line behind it, and the other way round."""
        self.bad(with_line(with_line(self.lines, 14, "first 1"), 15, "first"), 14)
        self.bad(with_line(with_line(self.lines, 14, "first"), 15, "first 1"), 14)
        self.bad(with_line(with_line(self.lines, 15, "first 1"), 17, "first"), 15)
        self.bad(with_line(with_line(self.lines, 15, "first"), 17, "first 1"), 15)

    def test_the_order(self):
        bad_stock, wrong_stock = (4, "registers  1"), (3, "modulus 9")
        bad_edit, bad_done = (14, "first"), (18, "done 3")
        told = self.lines
        for at, line in (bad_edit, bad_stock, bad_done):
            told = with_line(told, at, line)
        self.bad(told, 18)
        self.bad([*told, ""], 18)
        self.bad(with_line(told, 18, "done 1"), 4)
        self.refuse_book(read_desk, text_of(with_line(with_line(self.lines, *bad_edit), *wrong_stock)))
        self.bad(with_line(with_line(self.lines, *bad_done), *wrong_stock), 18)
        self.bad(with_line(self.lines, *bad_edit), 14)
        self.refuse(read_desk, text_of(told) + "x", 19)

    def test_changed_texts(self):
        generator = random.Random(493)
        desk = Desk(STOCK)
        for edit in EDITS:
            desk.edit(edit)
        desk.apply([("first", 1), ("loose", "go", 1)])
        desk.undo()
        met = [0, 0, 0]
        before = write_desk(desk).split("\n")[:-1]
        for _ in range(1500):
            lines = list(before)
            at = generator.randrange(len(lines))
            words = lines[at].split(" ")
            words[generator.randrange(len(words))] = generator.choice(["0", "1", "2", "7", "", "go", "hit", "+", "x", "11", "12"])
            lines[at:at + 1] = generator.choice([[], [lines[at]] * 2, [" ".join(words)], [" ".join(words)], [lines[at] + " "], [generator.choice(lines)]])
            text = text_of(lines)
            try:
                told = read_desk(text)
            except BadText as error:
                self.assertTrue(1 <= error.line <= len(lines) + 1)
                met[0] += 1
            except BadBook:
                met[1] += 1
            else:
                self.assertEqual(write_desk(told), text)
                met[2] += 1
        self.assertGreater(min(met), 15)

    def test_many_steps(self):
        lines = ["desk 11", *SMALL]
        for number in range(2000):
            lines += ["step 1", ["fuse go 0", "loose go 0"][number % 2]]
        desk = read_desk(text_of([*lines, "done 1999"]))
        self.assertEqual((desk.steps_done, desk.steps_undone), (1999, 1))
        self.assertEqual(write_desk(desk), text_of([*lines, "done 1999"]))
        self.bad([*lines, "step 1", "loose go 0", "done 0"], 4014)

    def test_random_desks(self):
        generator = random.Random(494)
        steps = 0
        for _ in range(30):
            desk = Desk(with_fields(STOCK))
            for _ in range(generator.randint(0, 8)):
                edits = [generator.choice(EDITS) for _ in range(generator.randint(1, 3))]
                try:
                    desk.apply(edits)
                    steps += 1
                except BadEdit as error:
                    self.assertLess(error.index, len(edits))
                    self.assertIsInstance(error, OddsError)
                if generator.random() < 0.3:
                    desk.undo()
            self.check(desk)
        self.assertGreater(steps, 40)
        self.assertEqual(fields_of(edited(STOCK, ("first", 1))), fields_of(STOCK))
