import random
import unittest

from oddskept.coderun import after, moves_of
from oddskept.errors import BadPlan
from oddskept.families import stairs, tally
from oddskept.hall import Hall, first_position, picks_at
from oddskept.picking import coin_sides, play_pick
from oddskept.plainrun import taken, takes_of
from oddskept.progbook import Program
from tests.helpers import is_exact

STOP = ("stop",)
REGISTERS = (3, 999, 2, 0, 7, 7, 500, 1)
MAIL = (0, 5, 999)


def at_line(instruction, registers=REGISTERS, mail=MAIL, lines=5):
    """A hall with one thread that is at the second line, which is the instruction; and its position."""
    hall = Hall(Program(len(mail), 0, [[STOP, instruction] + [STOP] * (lines - 2)]), [], [])
    return hall, (mail, ((1, registers, ()),), ())


class Lines(unittest.TestCase):
    def check(self, instruction, event, registers=None, mail=None, line=2, side=0):
        """The instruction brings about this event, changes these registers and mail cells alone, and goes on to the line."""
        hall, position = at_line(instruction)
        before = str(position)
        wanted = list(REGISTERS)
        for at, value in (registers or {}).items():
            wanted[at] = value
        cells = list(MAIL)
        for at, value in (mail or {}).items():
            cells[at] = value
        told = play_pick(hall, position, (0, 0), side)
        self.assertEqual(told, ((tuple(cells), ((line, tuple(wanted), ()),), ()), (0, 1, *event)))
        self.assertTrue(is_exact(told))
        self.assertEqual(str(position), before)

    def test_set_and_copy(self):
        self.check(("set", 0, 999), ("own", 999), {0: 999})
        self.check(("set", 7, 0), ("own", 0), {7: 0})
        self.check(("copy", 3, 1), ("own", 999), {3: 999})
        self.check(("copy", 1, 3), ("own", 0), {1: 0})

    def test_add(self):
        self.check(("add", 0, 1, 2), ("own", 1), {0: 1})
        self.check(("add", 6, 6, 6), ("own", 0), {6: 0})
        self.check(("add", 3, 0, 2), ("own", 5), {3: 5})
        self.check(("add", 1, 1, 3), ("own", 999), {1: 999})

    def test_less_and_same(self):
        self.check(("less", 4, 2, 0), ("own", 1), {4: 1})
        self.check(("less", 4, 0, 2), ("own", 0), {4: 0})
        self.check(("less", 0, 4, 5), ("own", 0), {0: 0})
        self.check(("same", 0, 4, 5), ("own", 1), {0: 1})
        self.check(("same", 7, 4, 6), ("own", 0), {7: 0})

    def test_jump(self):
        self.check(("jump", 4), ("own", 0), line=4)
        self.check(("jump", 0), ("own", 0), line=0)
        self.check(("jump", 4, 7), ("own", 0), line=4)
        self.check(("jump", 4, 1), ("own", 0), line=4)
        self.check(("jump", 4, 3), ("own", 0), line=2)
        self.check(("jump", 1), ("own", 0), line=1)

    def test_mail(self):
        self.check(("look", 0, 2), ("own", 999), {0: 999})
        self.check(("look", 1, 0), ("own", 0), {1: 0})
        self.check(("leave", 2, 1), ("own", 2), mail={1: 2})
        self.check(("leave", 3, 2), ("own", 0), mail={2: 0})
        self.check(("send", 1, 0), ("own", 999), mail={0: 999})
        self.check(("send", 3, 0), ("own", 0), mail={0: 0})
        self.check(("fetch", 3, 1), ("own", 5), {3: 5}, {1: 0})
        self.check(("fetch", 0, 2), ("own", 999), {0: 999}, {2: 0})

    def test_throw(self):
        for sides in (2, 3, 60):
            for side in (0, 1, 2, 59, 60, -1, -61, 10 ** 40 + 7, -10 ** 40):
                self.check(("throw", 4, sides), ("side", side % sides), {4: side % sides}, side=side)

    def test_print(self):
        self.check(("print", 1), ("print", 999))
        self.check(("print", 3), ("print", 0), side=17)

    def test_the_side_counts_at_throws_alone(self):
        for side in (1, -5, 10 ** 20):
            self.check(("set", 0, 2), ("own", 2), {0: 2}, side=side)
            self.check(("add", 0, 0, 0), ("own", 6), {0: 6}, side=side)

    def test_side_0_by_default(self):
        hall, position = at_line(("throw", 0, 7))
        self.assertEqual(play_pick(hall, position, (0, 0))[1], (0, 1, "side", 0))
        self.assertEqual(play_pick(hall, position, (0, 0), side=9)[1], (0, 1, "side", 2))

    def test_other_threads_stay(self):
        program = Program(1, 0, [[("set", 0, 1), STOP], [("set", 1, 2), STOP], [("leave", 2, 0), STOP]])
        hall = Hall(program, [], [])
        position, event = play_pick(hall, first_position(hall), (1, 0))
        self.assertEqual(event, (1, 0, "own", 2))
        self.assertEqual(position[1], ((0, (0,) * 8, ()), (1, (0, 2) + (0,) * 6, ()), (0, (0,) * 8, ())))


class Calls(unittest.TestCase):
    PROGRAM = Program(0, 1, [[("set", 5, 4), ("call", 5, 0, 0, 5), ("print", 5), STOP]])

    def play(self, way, picks):
        hall = Hall(self.PROGRAM, [stairs(1)], [way])
        position, events = first_position(hall), []
        for pick in picks:
            position, event = play_pick(hall, position, pick, 1)
            events.append(event)
        return position, events

    def test_over_code(self):
        # 4 modulo 3 items is item 1: `hit`, which makes a step and answers 1.
        position, events = self.play("code", [(0, 0)] * 2)
        self.assertEqual(position[1], ((1, (0, 0, 0, 0, 0, 4, 0, 0), (0, 0)),))
        self.assertEqual(position[2], (((), (), (("hit", 0, (0,)),)),))
        self.assertEqual(events[-1], (0, 1, "begin", 1))
        position, events = self.play("code", [(0, 0)] * 3)
        self.assertEqual((position[1][0][0], position[1][0][2], position[2]), (1, (0, 0), (((), (), (("hit", 1, (1,)),)),)))
        self.assertIsNone(events[-1])
        position, events = self.play("code", [(0, 0)] * 5)
        self.assertEqual(events[2:], [None, (0, 1, "end", 1), (0, 2, "print", 1)])
        self.assertEqual(position, ((), ((3, (0, 0, 0, 0, 0, 1, 0, 0), ()),), (((), (), ((),)),)))

    def test_over_plain(self):
        position, events = self.play("plain", [(0, 0)] * 2)
        self.assertEqual(position[2], ((1, ((0, "hit", 0),)),))
        self.assertEqual(events[-1], (0, 1, "begin", 1))
        position, events = self.play("plain", [(0, 0)] * 3)
        self.assertEqual((position[1][0][2], position[2]), ((0, 0), ((0, ((1, 1),)),)))
        self.assertIsNone(events[-1])
        position, events = self.play("plain", [(0, 0)] * 5)
        self.assertEqual(events[3:], [(0, 1, "end", 1), (0, 2, "print", 1)])
        self.assertEqual(position[2], ((0, ((),)),))

    def test_choices(self):
        hall = Hall(Program(0, 1, [[("call", 1, 0, 0, 0), STOP]]), [stairs(1)], ["plain"])
        position, _ = play_pick(hall, first_position(hall), (0, 0))
        for choice, number in ((0, 2), (1, 3)):
            goal, event = play_pick(hall, position, (0, choice))
            self.assertEqual((goal[2], event), (((number, ((1, 0),)),), None))

    def test_two_calls_of_one_object(self):
        program = Program(0, 2, [[("call", 0, 1, 0, 0), STOP], [("call", 3, 1, 2, 0), STOP]])
        for way in ("code", "plain"):
            hall = Hall(program, [stairs(1), tally([0, 1])], ["code", way])
            position = first_position(hall)
            trace = []
            for thread in (1, 0, 0, 0, 0) if way == "code" else (1, 0, 0, 0):
                position, event = play_pick(hall, position, (thread, 0))
                trace.append(event)
            self.assertEqual(trace[:2] + trace[-1:], [(1, 0, "begin", 0), (0, 0, "begin", 0), (0, 0, "end", 1)])
            while position[1][1][2]:
                position, event = play_pick(hall, position, (1, 0))
            self.assertEqual((event, position[1][1][1][3]), ((1, 0, "end", 1), 1))

    def test_against_moves_and_takes(self):
        """Over code the picks are the moves of the code, over the plain object its begins, takes and ends."""
        generator = random.Random(42)
        stock = tally([1, 0])
        program = Program(0, 1, [[("add", 1, 1, 2), ("call", 1, 0, port, 1), ("jump", 0)] for port in range(3)])
        for way in ("code", "plain") * 10:
            hall = Hall(program, [stock], [way])
            position = first_position(hall)
            for _ in range(60):
                thread, choice = generator.choice(picks_at(hall, position))
                (line, _, inside), state = position[1][thread], position[2][0]
                goal, event = play_pick(hall, position, (thread, choice))
                self.assertTrue(is_exact(goal))
                if way == "code" and (inside or line == 1):
                    move = next(move for move in moves_of(stock.code, state) if move[1] == thread)
                    self.assertEqual(goal[2][0], after(stock.code, state, move))
                    self.assertEqual(event, {0: (thread, 1, "begin", 0), 1: None, 2: (thread, 1, "end", move[2])}[move[0]])
                elif way == "plain" and inside and (thread, choice) in takes_of(stock, state):
                    self.assertEqual((goal[2][0], event), (taken(stock, state, thread, choice), None))
                self.assertEqual([bool(one[2]) for one in goal[1]],
                                 [bool(one) for one in goal[2][0][2 if way == "code" else 1]])
                position = goal


class WrongPicks(unittest.TestCase):
    def refuse(self, hall, position, pick):
        for function in (coin_sides, play_pick):
            with self.subTest(pick=pick, function=function), self.assertRaises(BadPlan):
                function(hall, position, pick)
        with self.assertRaises(BadPlan):
            play_pick(hall, position, pick, side=1)

    def test_refused(self):
        program = Program(1, 1, [[("fetch", 0, 0), STOP], [("call", 1, 0, 0, 0), STOP], [STOP]])
        for way in ("code", "plain"):
            hall = Hall(program, [stairs(1)], [way])
            position = first_position(hall)
            for pick in ((0, 0), (2, 0), (3, 0), (-1, 0), (-2, 0), (1, 1), (1, -1), (10 ** 20, 0), (1, 10 ** 20)):
                self.refuse(hall, position, pick)
            position, _ = play_pick(hall, position, (1, 0))
            for pick in ((1, 2), (1, -1), (0, 0), (-2, 0)) + (((1, 1),) if way == "code" else ()):
                self.refuse(hall, position, pick)
            position, _ = play_pick(hall, position, (1, 0))
            if way == "plain":
                self.refuse(hall, position, (1, 1))

    def test_send_that_waits(self):
        hall, position = at_line(("send", 0, 1))
        self.refuse(hall, position, (0, 0))
        hall, position = at_line(("fetch", 0, 0))
        self.refuse(hall, position, (0, 0))


class CoinSides(unittest.TestCase):
    def test_throws(self):
        for sides in (2, 60):
            hall, position = at_line(("throw", 0, sides))
            self.assertEqual(coin_sides(hall, position, (0, 0)), sides)

    def test_others(self):
        for instruction in (("set", 0, 2), ("print", 2), ("jump", 3), ("send", 2, 0)):
            hall, position = at_line(instruction)
            self.assertEqual(coin_sides(hall, position, (0, 0)), 0)
            self.assertIs(type(coin_sides(hall, position, (0, 0))), int)

    def test_calls(self):
        hall = Hall(Program(0, 1, [[("call", 2, 0, 0, 0), ("throw", 2, 2), STOP]]), [stairs(1)], ["code"])
        position = first_position(hall)
        sides = []
        for _ in range(3):
            sides.append(coin_sides(hall, position, (0, 0)))
            position, _ = play_pick(hall, position, (0, 0))
        self.assertEqual(sides, [0, 0, 2])
