import random
import unittest

from oddskept.errors import Unfit
from oddskept.families import stairs, tally
from oddskept.hall import Hall, first_position, picks_at
from oddskept.picking import play_pick
from oddskept.plainbook import PlainBook
from oddskept.progbook import Program
from oddskept.stocks import Stock
from tests.helpers import CELL, code_with, is_exact, loose

STOP = ("stop",)
ZEROS = (0,) * 8


def calls(*told, objects=1):
    """A program with a thread for each call."""
    return Program(1, objects, [[("call", 0, number, port, 0), STOP] for number, port in told])


class Halls(unittest.TestCase):
    def refuse(self, *told):
        with self.subTest(told), self.assertRaises(Unfit):
            Hall(*told)

    def test_fields(self):
        program = calls((0, 0), (1, 2), objects=2)
        stocks, ways = [stairs(1), tally([0, 1])], ["code", "plain"]
        hall = Hall(program, stocks, ways)
        self.assertIs(hall.program, program)
        self.assertEqual((type(hall.stocks), hall.ways), (tuple, ("code", "plain")))
        self.assertIs(hall.stocks[0], stocks[0])
        self.assertIs(hall.stocks[1], stocks[1])
        stocks.clear()
        ways[0] = "plain"
        self.assertEqual((len(hall.stocks), hall.ways), (2, ("code", "plain")))
        self.assertEqual(Hall(program, tuple(hall.stocks), ("plain", "plain")).ways, ("plain", "plain"))

    def test_no_objects(self):
        hall = Hall(Program(0, 0, [[STOP]]), [], [])
        self.assertEqual((hall.stocks, hall.ways), ((), ()))

    def test_numbers_of_stocks_and_ways(self):
        program, stock = calls((0, 0), (1, 0), objects=2), stairs(1)
        Hall(program, [stock] * 2, ["code"] * 2)
        for stocks, ways in ((1, 2), (2, 1), (3, 2), (2, 3), (0, 0), (1, 1), (3, 3)):
            self.refuse(program, [stock] * stocks, ["code"] * ways)

    def test_ways(self):
        program, stock = calls((0, 0)), stairs(1)
        for way in ("", "Code", "codes", "plain ", "cod"):
            self.refuse(program, [stock], [way])
        self.refuse(calls((0, 0), (1, 0), objects=2), [stock] * 2, ["code", "either"])

    def test_ports(self):
        empty = Stock(code_with(ports=[[("go", 0)], [], [("go", 1)]]), PlainBook(1, 0, []))
        for way in ("code", "plain"):
            for port in (0, 2):
                Hall(calls((0, port)), [empty], [way])
            for port in (1, 3, 7):
                self.refuse(calls((0, port)), [empty], [way])
            # Also a call that no run reaches.
            self.refuse(Program(0, 1, [[STOP, ("call", 0, 0, 1, 0), STOP]]), [empty], [way])
            self.refuse(Program(0, 1, [[STOP], [STOP, STOP, ("call", 0, 0, 3, 0), ("jump", 0)]]), [empty], [way])
        self.refuse(calls((0, 0), (1, 1), objects=2), [empty, stairs(1)], ["code", "code"])
        Hall(calls((1, 0), (0, 2), objects=2), [empty, stairs(1)], ["code", "code"])

    def test_objects_that_nobody_calls(self):
        empty = Stock(code_with(ports=[[]]), PlainBook(1, 0, []))
        self.assertEqual(len(Hall(Program(0, 4, [[STOP]]), [empty] * 4, ["code"] * 4).stocks), 4)


class Positions(unittest.TestCase):
    def test_first_position(self):
        hall = Hall(Program(2, 2, [[STOP], [("call", 0, 0, 0, 0), STOP]]), [tally([0, 1]), tally([1, 0])], ["code", "plain"])
        self.assertEqual(first_position(hall), ((0, 0), ((0, ZEROS, ()),) * 2,
                                                ((((0, 0),), (), ((), (), ())), (0, ((), (), ())))))
        self.assertTrue(is_exact(first_position(hall)))

    def test_first_states(self):
        stock = Stock(code_with(rows=[[1, 0]], parts=[("cell", PlainBook(2, 1, []))]), PlainBook(3, 2, []))
        for way, state in (("code", (((1, 0),), (1,), ((),))), ("plain", (2, ((),)))):
            self.assertEqual(first_position(Hall(calls((0, 0)), [stock], [way]))[2], (state,))

    def test_nothing(self):
        self.assertEqual(first_position(Hall(Program(0, 0, [[STOP]]), [], [])), ((), ((0, ZEROS, ()),), ()))


class Picks(unittest.TestCase):
    def test_example(self):
        program = Program(1, 1, [[("fetch", 0, 0), STOP], [("call", 1, 0, 0, 0), STOP]])
        hall = Hall(program, [stairs(1)], ["plain"])
        self.assertEqual([picks_at(hall, first_position(hall)), first_position(hall)[2]], [[(1, 0)], ((1, ((),)),)])

    def test_lines_that_wait(self):
        program = Program(2, 0, [[("send", 0, 0), STOP], [("fetch", 0, 1), STOP], [STOP], [("jump", 0)]])
        hall = Hall(program, [], [])
        threads = first_position(hall)[1]
        for mail, picks in (((0, 0), [0, 3]), ((0, 5), [0, 1, 3]), ((1, 0), [3]), ((999, 1), [1, 3])):
            self.assertEqual(picks_at(hall, (mail, threads, ())), [(thread, 0) for thread in picks])
        threads = ((1, ZEROS, ()),) * 2 + threads[2:]
        self.assertEqual(picks_at(hall, ((0, 0), threads, ())), [(3, 0)])

    def test_no_picks(self):
        hall = Hall(Program(0, 0, [[STOP]] * 3), [], [])
        self.assertEqual(picks_at(hall, first_position(hall)), [])

    def test_steps_answers_and_uses_that_wait(self):
        code = code_with(registers=2, parts=[("cell", CELL)], ports=[[("go", 0)], [("put", 1)]],
                         deeds=[("go", loose(("use", 1, 0, "wait", 0), ("answer", 1))),
                                ("put", loose(("use", 1, 0, "put", 0), ("answer", 1)))])
        hall = Hall(calls((0, 0), (0, 1)), [Stock(code, PlainBook(1, 0, []))], ["code"])
        position = first_position(hall)
        self.assertEqual(picks_at(hall, position), [(0, 0), (1, 0)])
        position, _ = play_pick(hall, position, (0, 0))
        self.assertEqual(picks_at(hall, position), [(1, 0)])
        position, _ = play_pick(hall, position, (1, 0))
        self.assertEqual(picks_at(hall, position), [(1, 0)])
        position, _ = play_pick(hall, position, (1, 0))
        self.assertEqual(picks_at(hall, position), [(0, 0), (1, 0)])
        position, event = play_pick(hall, position, (1, 0))
        self.assertEqual(event, (1, 0, "end", 0))
        self.assertEqual(picks_at(hall, position), [(0, 0)])

    def test_takes_and_ends(self):
        plain = PlainBook(2, 0, [("go", 0, 0, state, answer) for state in (0, 1) for answer in (0, 1)])
        stock = Stock(code_with(ports=[[("go", 0)], [("go", 1)], [("go", 0)]]), plain)
        hall = Hall(calls((0, 0), (0, 1), (0, 2)), [stock], ["plain"])
        mail, threads, _ = first_position(hall)
        inside = tuple((0, ZEROS, (0, port)) for port in range(3))
        asked, wrong = (0, "go", 0), (0, "go", 1)
        told = [
            ((0, (asked, wrong, (1, 7))), [(0, 0), (0, 1), (0, 2), (0, 3), (2, 0)]),
            ((1, (asked, (0, "nobody", 0), (1, 0))), [(2, 0)]),
            ((0, ((1, 0), (1, 0), asked)), [(0, 0), (1, 0), (2, 0), (2, 1), (2, 2), (2, 3)]),
        ]
        for state, picks in told:
            self.assertEqual(picks_at(hall, (mail, inside, (state,))), picks)
        state = (0, ((), asked, ()))
        self.assertEqual(picks_at(hall, (mail, (threads[0], inside[1], threads[2]), (state,))),
                         [(0, 0), (1, 0), (1, 1), (1, 2), (1, 3), (2, 0)])

    def test_ports_beside_one_another(self):
        # Each thread asks its own object and its own port.
        program = Program(0, 2, [[("call", 0, 1, 0, 0), STOP], [("call", 0, 0, 0, 0), STOP], [("call", 0, 1, 2, 0), STOP]])
        hall = Hall(program, [stairs(1), tally([0, 1])], ["plain", "code"])
        position = first_position(hall)
        for thread in (1, 0, 2):
            position, _ = play_pick(hall, position, (thread, 0))
        self.assertEqual(picks_at(hall, position), [(0, 0), (1, 0), (1, 1), (2, 0)])
        position, _ = play_pick(hall, position, (1, 1))
        self.assertEqual(picks_at(hall, position), [(0, 0), (1, 0), (2, 0)])

    def test_ascending_new_lists(self):
        generator = random.Random(41)
        program = Program(1, 1, [[("call", 0, 0, 0, 0), ("add", 0, 0, 1), ("jump", 0)], [("send", 0, 0), ("jump", 0)],
                                 [("fetch", 1, 0), ("jump", 0)]])
        for way in ("code", "plain"):
            hall = Hall(program, [stairs(3)], [way])
            position = first_position(hall)
            for _ in range(100):
                picks = picks_at(hall, position)
                self.assertIs(type(picks), list)
                self.assertTrue(is_exact(tuple(picks)))
                self.assertEqual(picks, sorted(set(picks)))
                pick = generator.choice(picks)
                picks.clear()
                self.assertIn(pick, picks_at(hall, position))
                position, _ = play_pick(hall, position, pick)
