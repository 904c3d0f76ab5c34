import random
import unittest

from oddskept.errors import BadProgram
from oddskept.progbook import Program, most_throws
from tests.helpers import is_exact

STOP = ("stop",)

# For each word its operands as (least, greatest) in a program with 3 mail cells, 2 objects and a thread of 5 lines.
REGISTER, VALUE, MAIL, LINE, SIDES, OBJECT, PORT = (0, 7), (0, 999), (0, 2), (0, 4), (2, 60), (0, 1), (0, 7)
FORMS = [
    ("set", REGISTER, VALUE), ("copy", REGISTER, REGISTER), ("add", REGISTER, REGISTER, REGISTER),
    ("less", REGISTER, REGISTER, REGISTER), ("same", REGISTER, REGISTER, REGISTER), ("jump", LINE), ("jump", LINE, REGISTER),
    ("look", REGISTER, MAIL), ("leave", REGISTER, MAIL), ("send", REGISTER, MAIL), ("fetch", REGISTER, MAIL),
    ("throw", REGISTER, SIDES), ("print", REGISTER), ("call", REGISTER, OBJECT, PORT, REGISTER), ("stop",),
]


def five(instruction):
    """A thread of five lines, the first of which is the instruction."""
    return [instruction, STOP, STOP, STOP, STOP]


def program(*threads, mail=3, objects=2):
    return Program(mail, objects, threads)


def paths(thread, line=0, seen=()):
    """All sequences of lines from a line on in which no line stands twice."""
    yield [line]
    instruction = thread[line]
    if instruction[0] == "stop":
        followers = []
    elif instruction[0] == "jump":
        followers = [instruction[1]] + ([line + 1] if len(instruction) == 3 else [])
    else:
        followers = [line + 1]
    for follower in followers:
        if follower not in seen and follower != line:
            for path in paths(thread, follower, (*seen, line)):
                yield [line] + path


def lies_on_a_ring(thread, line):
    follower = line + 1
    return any(line in path for path in paths(thread, follower))


class Programs(unittest.TestCase):
    def refuse(self, *told):
        with self.subTest(str(told)[:200]), self.assertRaises(BadProgram):
            Program(*told)

    def test_fields(self):
        threads = [[["call", 0, 1, 7, 3], ("stop",)], (["jump", 0],)]
        made = Program(3, 2, threads)
        self.assertEqual((made.mail, made.objects), (3, 2))
        self.assertEqual(made.threads, ((("call", 0, 1, 7, 3), ("stop",)), (("jump", 0),)))
        self.assertTrue(is_exact(made.threads))

    def test_copies(self):
        threads = [[["set", 0, 1], ["stop"]]]
        made = Program(0, 0, threads)
        threads[0][0][2] = 5
        threads[0].append(["stop"])
        threads.append([])
        self.assertEqual(made.threads, ((("set", 0, 1), ("stop",)),))

    def test_numbers(self):
        thread = [STOP]
        for mail in (0, 64):
            self.assertEqual(Program(mail, 0, [thread]).mail, mail)
        for objects in (0, 4):
            self.assertEqual(Program(0, objects, [thread]).objects, objects)
        for wrong in (-1, 65, 10 ** 30, -10 ** 30):
            self.refuse(wrong, 0, [thread])
        for wrong in (-1, 5, 10 ** 30):
            self.refuse(0, wrong, [thread])

    def test_numbers_of_threads(self):
        for many in (1, 33):
            self.assertEqual(len(Program(0, 0, [[STOP]] * many).threads), many)
        self.refuse(0, 0, [])
        self.refuse(0, 0, [[STOP]] * 34)
        self.refuse(0, 0, ())

    def test_numbers_of_lines(self):
        for many in (1, 16000):
            self.assertEqual(len(Program(0, 0, [[STOP] * many]).threads[0]), many)
        self.refuse(0, 0, [[]])
        self.refuse(0, 0, [[STOP], []])
        self.refuse(0, 0, [[STOP] * 16001])

    def test_each_operand(self):
        for word, *ranges in FORMS:
            least = [low for low, _ in ranges]
            program(five((word, *least)))
            program(five((word, *[high for _, high in ranges])))
            for at, (low, high) in enumerate(ranges):
                for inside in (low, high):
                    program(five((word, *least[:at], inside, *least[at + 1:])))
                for outside in (low - 1, high + 1, -10 ** 20, 10 ** 20):
                    self.refuse(3, 2, [five((word, *least[:at], outside, *least[at + 1:]))])

    def test_operands_without_anything_to_name(self):
        for instruction in (("look", 0, 0), ("leave", 0, 0), ("send", 0, 0), ("fetch", 0, 0)):
            self.refuse(0, 4, [[instruction, STOP]])
        self.refuse(64, 0, [[("call", 0, 0, 0, 0), STOP]])

    def test_numbers_of_operands(self):
        counts = {}
        for word, *ranges in FORMS:
            counts.setdefault(word, []).append([low for low, _ in ranges])
        for word, known in counts.items():
            for many in range(7):
                operands = next((one for one in known if len(one) == many), None)
                if operands is None:
                    self.refuse(3, 2, [five((word, *[2] * many))])
                else:
                    program(five((word, *operands)))

    def test_unknown_words(self):
        for word in ("", "Set", "read", "write", "swap", "test", "count", "use", "answer", "throws", "sett", " set"):
            for many in range(6):
                self.refuse(3, 2, [five((word, *[0] * many))])

    def test_last_lines(self):
        for last in (STOP, ("jump", 0), ("jump", 1)):
            program([("set", 0, 0), last])
        for word, *ranges in FORMS:
            instruction = (word, *[low for low, _ in ranges])
            if instruction not in (STOP, ("jump", 0)):
                self.refuse(3, 2, [[STOP, instruction]])
                self.refuse(3, 2, [[STOP], [instruction]])

    def test_calls_of_two_threads(self):
        one = [("call", 0, 0, 0, 0), STOP]
        for other in ((0, 1), (1, 0), (1, 1), (0, 7)):
            program(one, [("call", 0, *other, 0), STOP])
        program([one[0], one[0], ("call", 3, 0, 0, 5), STOP], [STOP])
        self.refuse(0, 1, [one, one])
        self.refuse(0, 1, [one, [STOP], [("set", 0, 0), ("call", 5, 0, 0, 2), STOP]])
        # Whether a line can be reached is not asked.
        self.refuse(0, 1, [one, [STOP, ("call", 0, 0, 0, 0), STOP]])
        self.refuse(0, 2, [[("call", 0, 1, 3, 0), *one], [("call", 0, 0, 3, 0), STOP], [("jump", 2), STOP, ("call", 1, 1, 3, 1), STOP]])

    def test_throws_on_rings(self):
        coin = ("throw", 0, 2)
        self.refuse(0, 0, [[coin, ("jump", 0)]])
        self.refuse(0, 0, [[STOP], [coin, ("jump", 0, 0), STOP]])
        self.refuse(0, 0, [[("jump", 3), ("set", 0, 0), ("jump", 4), coin, ("jump", 1, 0), STOP, ("jump", 3)][:5] + [("jump", 3)]])
        # Also where no run gets to.
        self.refuse(0, 0, [[STOP, coin, ("jump", 1)]])
        program([coin, ("jump", 1)])
        program([("jump", 0, 0), coin, STOP])
        program([("jump", 3), coin, STOP, ("jump", 3, 0), ("jump", 1)])

    def test_random_throws(self):
        generator = random.Random(31)
        found = [0, 0]
        for _ in range(600):
            many = generator.randint(1, 7)
            thread = [generator.choice([("throw", 0, 2), ("set", 0, 0), ("jump", generator.randrange(many + 1)),
                                        ("jump", generator.randrange(many + 1), 0), STOP]) for _ in range(many)] + [STOP]
            throws = [line for line, instruction in enumerate(thread) if instruction[0] == "throw"]
            wrong = any(lies_on_a_ring(thread, line) for line in throws)
            found[wrong] += 1
            if wrong:
                self.refuse(0, 0, [thread])
                continue
            most = max(sum(thread[line][0] == "throw" for line in path) for path in paths(thread))
            self.assertEqual(most_throws(Program(0, 0, [thread])), most, thread)
            self.assertEqual(most_throws(Program(0, 0, [thread, [STOP], thread])), 2 * most)
        self.assertGreater(min(found), 50)


class MostThrows(unittest.TestCase):
    def test_example(self):
        thread = [("throw", 0, 2), ("jump", 3, 0), ("throw", 1, 2), STOP]
        self.assertEqual([most_throws(Program(0, 0, [thread, thread])), most_throws(Program(0, 0, [[("jump", 0)]]))], [4, 0])
        with self.assertRaises(BadProgram):
            Program(0, 0, [[("throw", 0, 2), ("jump", 0)]])

    def test_lines_that_cannot_be_reached(self):
        coin = ("throw", 0, 2)
        self.assertEqual(most_throws(Program(0, 0, [[STOP, coin, coin, STOP]])), 0)
        self.assertEqual(most_throws(Program(0, 0, [[("jump", 2), coin, coin, STOP]])), 1)
        self.assertEqual(most_throws(Program(0, 0, [[("jump", 2, 0), coin, coin, STOP]])), 2)

    def test_the_longer_way(self):
        coin = ("throw", 0, 2)
        self.assertEqual(most_throws(Program(0, 0, [[("jump", 3, 0), coin, ("jump", 5), coin, coin, STOP]])), 2)
        self.assertEqual(most_throws(Program(0, 0, [[("jump", 4, 0), coin, coin, ("jump", 5), coin, STOP]])), 2)

    def test_behind_and_ahead_of_rings(self):
        coin = ("throw", 0, 2)
        thread = [coin, ("set", 0, 0), ("jump", 1, 0), coin, ("jump", 4, 1), ("jump", 1, 1), STOP]
        with self.assertRaises(BadProgram):
            Program(0, 0, [thread])
        thread[5] = ("jump", 4, 1)
        self.assertEqual(most_throws(Program(0, 0, [thread])), 2)

    def test_long_threads(self):
        # One line after the other, without recursion.
        coin = ("throw", 0, 2)
        self.assertEqual(most_throws(Program(0, 0, [[coin] * 15999 + [STOP]] * 2)), 31998)
        self.assertEqual(most_throws(Program(0, 0, [[("set", 0, 0)] * 15998 + [("jump", 0, 0), STOP], [coin, STOP]])), 1)
        back = [("jump", 15999)] + [("jump", line) for line in range(15999)]
        self.assertEqual(most_throws(Program(0, 0, [back])), 0)
        back[7] = coin
        with self.assertRaises(BadProgram):
            Program(0, 0, [back])
