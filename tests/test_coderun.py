import random
import unittest

from oddskept.codebook import CodeBook
from oddskept.coderun import after, first_state, moves_of, walk
from oddskept.errors import BadMove
from oddskept.families import stairs, tally
from oddskept.plainbook import PlainBook
from tests.helpers import CELL, code_with, is_exact, lines, loose

NAMED = PlainBook(3, 2, [("next", 2, 3, 0, 1), ("next", 0, 1, 1, 3)])


def one_line(instruction, registers, rows, parts=()):
    """What the registers, the cells, the part states and the line are behind one step."""
    books = [("named", NAMED), ("cell", CELL)]
    code = CodeBook(4, len(registers), rows, books, [[("go", 0)]],
                    [("go", loose(instruction, ("set", 0, 0), ("set", 0, 0), ("answer", 0)))])
    states = tuple(parts) or first_state(code)[1]
    behind = after(code, (code.rows, states, (("go", 0, tuple(registers)),)), (1, 0, 0))
    assert is_exact(behind)
    cells, parts, ((deed, line, registers),) = behind
    assert deed == "go"
    return registers, cells, parts, line


class Lines(unittest.TestCase):
    def check(self, instruction, registers, cells, told, told_cells):
        with self.subTest(instruction, registers=registers, cells=cells):
            behind = one_line(instruction, registers, cells)
            self.assertEqual(behind, (told, told_cells, (2, 0), 1))

    def test_read(self):
        cells = ((1, 2, 3), (0,))
        self.check(("read", 1, 0, 2), (0, 0, 0), cells, (0, 3, 0), cells)
        self.check(("read", 1, 0, 4), (0, 0, 0), cells, (0, 2, 0), cells)
        self.check(("read", 1, 1, 7), (3, 3, 3), cells, (3, 0, 3), cells)
        self.check(("read", 1, 0, 2, 0), (2, 0, 0), cells, (2, 2, 0), cells)
        self.check(("read", 0, 0, 7, 0), (3, 0, 0), cells, (2, 0, 0), cells)

    def test_write(self):
        self.check(("write", 1, 0, 2), (0, 2, 0), ((1, 2, 3), (0,)), (0, 2, 0), ((1, 2, 2), (0,)))
        self.check(("write", 1, 1, 5), (0, 2, 0), ((1, 2, 3), (0,)), (0, 2, 0), ((1, 2, 3), (2,)))
        self.check(("write", 1, 0, 5, 2), (0, 3, 2), ((0, 0, 0),), (0, 3, 2), ((0, 3, 0),))
        self.check(("write", 2, 0, 0, 2), (0, 0, 2), ((0, 0, 0),), (0, 0, 2), ((0, 0, 2),))

    def test_swap(self):
        self.check(("swap", 1, 0, 3), (0, 2, 0), ((1, 3),), (0, 3, 0), ((1, 2),))
        self.check(("swap", 1, 0, 0, 1), (0, 1, 0), ((2, 3),), (0, 3, 0), ((2, 1),))
        self.check(("swap", 0, 0, 1, 2), (3, 0, 1), ((2, 1),), (2, 0, 1), ((3, 1),))

    def test_test(self):
        self.check(("test", 0, 1, 2, 0, 0), (0, 1, 2), ((1, 1),), (1, 1, 2), ((2, 1),))
        self.check(("test", 0, 1, 2, 0, 0), (3, 2, 1), ((1, 1),), (0, 2, 1), ((1, 1),))
        self.check(("test", 1, 1, 1, 0, 1), (0, 3, 0), ((0, 3),), (0, 1, 0), ((0, 3),))
        self.check(("test", 2, 1, 2, 0, 1, 0), (3, 0, 3), ((0, 1),), (3, 0, 1), ((3, 1),))
        self.check(("test", 0, 1, 0, 0, 1, 0), (3, 0, 0), ((0, 1),), (1, 0, 0), ((3, 1),))
        self.check(("test", 0, 1, 2, 0, 0, 0), (1, 0, 2), ((0, 1),), (0, 0, 2), ((0, 1),))

    def test_count(self):
        self.check(("count", 1, 3, 0, 0), (0, 0, 0), ((2, 1),), (0, 2, 0), ((1, 1),))
        self.check(("count", 1, 0, 0, 5), (0, 0, 0), ((2, 1),), (0, 1, 0), ((2, 1),))
        self.check(("count", 1, 1, 0, 0, 1), (0, 3, 0), ((2, 1),), (0, 1, 0), ((2, 2),))
        self.check(("count", 0, 2, 0, 1, 2), (0, 0, 1), ((3, 1),), (3, 0, 1), ((1, 1),))

    def test_local_lines(self):
        cells = ((2,),)
        self.check(("set", 1, 3), (1, 1, 1), cells, (1, 3, 1), cells)
        self.check(("copy", 2, 0), (1, 2, 3), cells, (1, 2, 1), cells)
        self.check(("copy", 1, 1), (1, 2, 3), cells, (1, 2, 3), cells)
        self.check(("add", 0, 1, 2), (0, 2, 3), cells, (1, 2, 3), cells)
        self.check(("add", 1, 1, 1), (0, 3, 0), cells, (0, 2, 0), cells)
        for one, two in ((0, 0), (1, 2), (2, 1), (3, 3)):
            self.check(("less", 0, 1, 2), (3, one, two), cells, (int(one < two), one, two), cells)
            self.check(("same", 0, 1, 2), (3, one, two), cells, (int(one == two), one, two), cells)
        self.check(("less", 1, 1, 2), (0, 1, 2), cells, (0, 1, 2), cells)

    def test_jump(self):
        for instruction, value, line in ((("jump", 2), 0, 2), (("jump", 0), 0, 0), (("jump", 3), 0, 3),
                                         (("jump", 2, 1), 0, 1), (("jump", 2, 1), 1, 2), (("jump", 0, 1), 3, 0)):
            with self.subTest(instruction, value=value):
                behind = one_line(instruction, (0, value), ((1,),))
                self.assertEqual(behind, ((0, value), ((1,),), (2, 0), line))

    def test_use(self):
        behind = one_line(("use", 1, 0, "next", 0), (3, 0), ())
        self.assertEqual(behind, ((3, 1), (), (0, 0), 1))
        behind = one_line(("use", 0, 0, "next", 1), (0, 1), (), (0, 1))
        self.assertEqual(behind, ((3, 1), (), (1, 1), 1))
        behind = one_line(("use", 1, 1, "put", 0), (1, 0), (), (2, 1))
        self.assertEqual(behind, ((1, 1), (), (2, 1), 1))


class FirstStates(unittest.TestCase):
    def test_first_state(self):
        code = CodeBook(3, 2, [[0, 2], [1]], [("cell", CELL)], [[("go", 0)], []], [("go", loose(("answer", 0)))])
        self.assertEqual(first_state(code), (((0, 2), (1,)), (0,), ((), ())))
        self.assertEqual(first_state(stairs(3).code), ((), (), ((),)))

    def test_first_states_of_parts(self):
        code = code_with(modulus=4, parts=[("named", NAMED), ("cell", CELL)])
        self.assertEqual(first_state(code), ((), (2, 0), ((),)))


class Moves(unittest.TestCase):
    def setUp(self):
        deeds = [("go", lines(("set", 1, 1), ("answer", 1))), ("ask", loose(("use", 1, 0, "wait", 0), ("answer", 1)))]
        menus = [[("go", 1), ("ask", 0)], [], [("ask", 0)]]
        self.code = CodeBook(2, 2, [[0]], [("cell", CELL)], menus, deeds)

    def test_begins(self):
        self.assertEqual(moves_of(self.code, first_state(self.code)), [(0, 0, 0), (0, 0, 1), (0, 2, 0)])

    def test_begin(self):
        state = after(self.code, first_state(self.code), (0, 0, 0))
        self.assertEqual(state, (((0,),), (0,), (("go", 0, (1, 0)), (), ())))
        self.assertTrue(is_exact(state))

    def test_step_and_answer(self):
        state = walk(self.code, first_state(self.code), [(0, 0, 0), (1, 0, 0)])
        self.assertEqual(state, (((0,),), (0,), (("go", 1, (1, 1)), (), ())))
        self.assertEqual(moves_of(self.code, state), [(2, 0, 1), (0, 2, 0)])
        self.assertEqual(after(self.code, state, (2, 0, 1)), first_state(self.code))

    def test_a_use_that_waits_has_no_step(self):
        for part, argument, moves in ((0, 0, []), (1, 0, [(1, 2, 0)]), (1, 1, [])):
            state = (((0,),), (part,), ((), (), ("ask", 0, (argument, 0))))
            self.assertEqual(moves_of(self.code, state), [(0, 0, 0), (0, 0, 1)] + moves)

    def test_a_use_of_an_unknown_deed_waits(self):
        code = code_with(parts=[("cell", CELL)], deeds=[("go", loose(("use", 0, 0, "unknown", 0), ("answer", 0)))])
        self.assertEqual(moves_of(code, walk(code, first_state(code), [(0, 0, 0)])), [])

    def test_every_well_formed_state_is_taken(self):
        state = (((1,),), (1,), (("ask", 1, (0, 1)), ("go", 0, (1, 1)), ()))
        self.assertEqual(moves_of(self.code, state), [(2, 0, 1), (1, 1, 0), (0, 2, 0)])
        self.assertEqual(after(self.code, state, (1, 1, 0))[2][1], ("go", 1, (1, 1)))

    def test_new_lists(self):
        state = first_state(self.code)
        moves_of(self.code, state).clear()
        self.assertEqual(len(moves_of(self.code, state)), 3)

    def test_moves_are_exact(self):
        code = code_with(registers=2, deeds=[("go", loose(("same", 1, 0, 0), ("answer", 1)))])
        state = walk(code, first_state(code), [(0, 0, 0), (1, 0, 0)])
        self.assertTrue(is_exact(state))
        self.assertTrue(is_exact(tuple(moves_of(code, state))))


class FusedLines(unittest.TestCase):
    def step(self, told, registers=(0, 0), part=0, line=0):
        code = CodeBook(2, 2, [[0, 0]], [("cell", CELL)], [[("go", 0)]], [("go", lines(*told))])
        state = after(code, (((0, 0),), (part,), (("go", line, registers),)), (1, 0, 0))
        return state[2][0][1:], state[0][0], state[1][0]

    def test_lines_that_run_together(self):
        told = ("+", ("set", 0, 1), "+", ("write", 0, 0, 0), ("write", 0, 0, 1), ("set", 1, 1), ("answer", 0))
        self.assertEqual(self.step(told), ((3, (1, 0)), (1, 1), 0))
        self.assertEqual(self.step(told, line=1), ((3, (0, 0)), (0, 0), 0))
        self.assertEqual(self.step(told, line=2), ((3, (0, 0)), (0, 0), 0))

    def test_ahead_of_an_answer(self):
        told = ("+", ("set", 0, 1), "+", ("set", 1, 1), ("answer", 0))
        self.assertEqual(self.step(told), ((2, (1, 1)), (0, 0), 0))
        self.assertEqual(self.step(("+", ("jump", 2), ("set", 0, 0), ("answer", 0))), ((2, (0, 0)), (0, 0), 0))

    def test_ahead_of_a_use_that_waits(self):
        told = ("+", ("set", 1, 1), "+", ("use", 1, 0, "wait", 0), ("set", 0, 1), ("answer", 0))
        self.assertEqual(self.step(told, part=0), ((1, (0, 1)), (0, 0), 0))
        self.assertEqual(self.step(told, part=1), ((3, (1, 1)), (0, 0), 0))

    def test_whether_a_use_waits_is_asked_when_it_comes(self):
        awake = ("+", ("set", 0, 1), "+", ("use", 1, 0, "put", 0), "+", ("set", 0, 0), ("use", 0, 0, "wait", 0), ("answer", 0))
        self.assertEqual(self.step(awake), ((4, (1, 0)), (0, 0), 0))
        asleep = ("+", ("set", 0, 1), ("use", 0, 0, "wait", 0), ("answer", 0))
        self.assertEqual(self.step(asleep, part=1), ((1, (1, 0)), (0, 0), 1))

    def test_loose_ahead_of_a_use(self):
        told = (("set", 1, 1), ("use", 1, 0, "get", 0), ("answer", 0))
        self.assertEqual(self.step(told), ((1, (0, 1)), (0, 0), 0))

    def test_jumps(self):
        told = ("+", ("jump", 3, 0), ("set", 1, 1), ("answer", 1), "+", ("set", 1, 1), ("jump", 1))
        self.assertEqual(self.step(told, (1, 0)), ((1, (1, 1)), (0, 0), 0))
        self.assertEqual(self.step(told, (0, 0)), ((2, (0, 1)), (0, 0), 0))
        self.assertEqual(self.step(("+", ("set", 0, 1), ("jump", 0)), (0, 0)), ((0, (1, 0)), (0, 0), 0))

    def test_the_greatest_step(self):
        told = ["+", ("count", 1, 1, 0, 0)] * 159 + [("answer", 0)]
        self.assertEqual(self.step(told), ((159, (0, 0)), (1, 0), 0))


class BadMoves(unittest.TestCase):
    def setUp(self):
        self.code = tally([0, 1]).code
        self.first = first_state(self.code)

    def refuse(self, state, move):
        with self.subTest(state=state, move=move), self.assertRaises(BadMove) as caught:
            after(self.code, state, move)
        self.assertEqual(caught.exception.index, 0)

    def test_moves_of_idle_ports(self):
        for move in ((0, 0, 1), (0, 0, -1), (0, 3, 0), (0, -1, 0), (0, -3, 0), (1, 0, 0), (2, 0, 0), (3, 0, 0), (-1, 0, 0),
                     (0, 10 ** 9, 0), (0, 0, 10 ** 9)):
            self.refuse(self.first, move)

    def test_moves_of_busy_ports(self):
        state = walk(self.code, self.first, [(0, 0, 0)])
        for move in ((0, 0, 0), (1, 0, 1), (1, 0, -1), (2, 0, 0), (2, 0, 1), (1, 3, 0), (1, -3, 0), (1, 1, 0)):
            self.refuse(state, move)
        state = walk(self.code, state, [(1, 0, 0), (1, 0, 0)])
        for move in ((1, 0, 0), (2, 0, 0), (2, 0, 2), (0, 0, 0), (2, -3, 1), (2, 1, 1)):
            self.refuse(state, move)

    def test_walk(self):
        for row, index in (([(9, 9, 9)], 0), ([(0, 1, 0), (2, 1, 1)], 1), ([(0, 1, 0), (0, 0, 0), (0, 1, 0)], 2),
                           ([(0, 0, 0), (1, 0, 0), (1, 0, 0), (2, 0, 1), (2, 0, 1), (9, 9, 9)], 4)):
            for told in (row, tuple(row)):
                with self.subTest(told), self.assertRaises(BadMove) as caught:
                    walk(self.code, self.first, told)
                self.assertEqual(caught.exception.index, index)

    def test_empty_rows(self):
        for row in ([], ()):
            self.assertEqual(walk(self.code, self.first, row), self.first)

    def test_long_rows(self):
        one = [(0, 0, 0), (1, 0, 0), (1, 0, 0), (2, 0, 1)]
        self.assertEqual(walk(self.code, self.first, one * 1000), (((1, 0),), (), ((), (), ())))
        with self.assertRaises(BadMove) as caught:
            walk(self.code, self.first, one * 1000 + [(2, 0, 1)])
        self.assertEqual(caught.exception.index, 4000)

    def test_waiting_uses(self):
        code = code_with(parts=[("cell", CELL)], deeds=[("go", loose(("use", 0, 0, "wait", 0), ("answer", 0)))])
        with self.assertRaises(BadMove) as caught:
            walk(code, first_state(code), [(0, 0, 0), (1, 0, 0)])
        self.assertEqual(caught.exception.index, 1)

    def test_after_takes_just_the_moves(self):
        generator = random.Random(1)
        for _ in range(30):
            state = self.first
            for _ in range(generator.randint(0, 12)):
                state = after(self.code, state, generator.choice(moves_of(self.code, state)))
            moves = moves_of(self.code, state)
            for move in [(kind, port, value) for kind in range(-1, 4) for port in range(-1, 4) for value in range(-1, 4)]:
                if move in moves:
                    self.assertTrue(is_exact(after(self.code, state, move)))
                else:
                    self.refuse(state, move)


class Examples(unittest.TestCase):
    def test_walk(self):
        code = tally([0, 1]).code
        state = walk(code, first_state(code), [(0, 1, 0), (1, 1, 0), (1, 1, 0)])
        self.assertEqual([state, moves_of(code, state)],
                         [(((0, 1),), (), ((), ("raise", 2, (1, 1, 0)), ())), [(0, 0, 0), (2, 1, 1), (0, 2, 0)]])

    def test_bad_move(self):
        code = tally([0, 1]).code
        with self.assertRaises(BadMove) as caught:
            walk(code, first_state(code), [(0, 1, 0), (2, 1, 1)])
        self.assertEqual(caught.exception.index, 1)
