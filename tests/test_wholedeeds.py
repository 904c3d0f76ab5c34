import random
import unittest

from oddskept.codebook import CodeBook
from oddskept.coderun import after, first_state, moves_of
from oddskept.errors import TooLarge
from oddskept.families import stairs, tally
from oddskept.plainbook import PlainBook
from oddskept.wholedeeds import atomic, whole_deed
from tests.helpers import CELL, code_with, fields_of, is_exact, lines, loose


def chain(states):
    """A part that goes up from state to state by `up`, and knows `top` in its last state."""
    ups = [("up", state, 0, state + 1, 0) for state in range(states - 1)]
    return PlainBook(states, 0, ups + [("top", states - 1, 0, states - 1, 0)])


def chained(states, last=False):
    """Code with as many cells and parts as the chain has states, and one more with `last`."""
    deeds = [("up", loose(("use", 0, 0, "up", 0), ("answer", 0))),
             ("top", loose(("use", 0, 0, "top", 0), ("set", 0, 1), ("write", 0, 0, 0), ("answer", 0)))]
    menu = [("up", 0), ("top", 0)] if last else [("up", 0)]
    return CodeBook(2, 1, [[0]], [("chain", chain(states))], [menu], deeds)


def counted(rest):
    """A deed of 994 + rest lines that run, the answer among them."""
    body = [("copy", 0, 0)] * 122 + [("add", 1, 1, 2), ("jump", 1, 1)]
    return code_with(modulus=8, registers=3, deeds=[
        ("go", loose(("set", 2, 1), *body, *[("copy", 0, 0)] * rest, ("answer", 0)))])


class WholeDeeds(unittest.TestCase):
    def test_argument_and_registers(self):
        code = code_with(modulus=3, registers=3, rows=[[0, 0, 0]], deeds=[
            ("go", loose(("write", 0, 0, 0), ("write", 1, 0, 1), ("write", 2, 0, 2), ("set", 2, 2), ("answer", 2)))])
        behind = whole_deed(code, ((1, 1, 1),), (), "go", 2)
        self.assertEqual(behind, (((2, 0, 0),), (), 2))
        self.assertTrue(is_exact(behind))

    def test_deeds_of_no_menu(self):
        code = code_with(deeds=[("go", loose(("answer", 0))), ("other", loose(("set", 0, 1), ("answer", 0)))])
        self.assertEqual(whole_deed(code, (), (), "other", 0), ((), (), 1))

    def test_parts(self):
        code = code_with(registers=2, parts=[("one", CELL), ("two", CELL)], deeds=[
            ("go", loose(("use", 1, 1, "put", 0), ("use", 1, 0, "get", 1), ("answer", 1)))])
        self.assertEqual(whole_deed(code, (), (1, 0), "go", 1), ((), (1, 1), 1))

    def test_without_regard_to_fused_marks(self):
        told = (("set", 1, 1), ("write", 1, 0, 0), ("read", 0, 0, 1), ("add", 0, 0, 1), ("answer", 0))
        results = []
        for fused in range(16):
            deed = [(one, bool(fused >> at & 1)) for at, one in enumerate(told)]
            code = CodeBook(3, 2, [[0, 1]], [], [[("go", 0)]], [("go", deed)])
            results.append(whole_deed(code, ((2, 1),), (), "go", 2))
        self.assertEqual(results, [(((1, 1),), (), 2)] * 16)

    def test_a_use_that_waits(self):
        code = code_with(parts=[("cell", CELL)], deeds=[("go", loose(("use", 0, 0, "wait", 0), ("answer", 0)))])
        self.assertIs(whole_deed(code, (), (0,), "go", 0), None)
        self.assertEqual(whole_deed(code, (), (1,), "go", 0), ((), (0,), 1))
        self.assertIs(whole_deed(code, (), (1,), "go", 1), None)

    def test_the_line_that_does_not_run_may_wait(self):
        code = code_with(parts=[("cell", CELL)], deeds=[
            ("go", loose(("jump", 2), ("use", 0, 0, "wait", 0), ("answer", 0)))])
        self.assertEqual(whole_deed(code, (), (0,), "go", 1), ((), (0,), 1))

    def test_the_thousandth_line(self):
        for rest in (0, 5, 6):
            self.assertEqual(whole_deed(counted(rest), (), (), "go", 5), ((), (), 5))
        for rest in (7, 8, 30):
            self.assertIs(whole_deed(counted(rest), (), (), "go", 5), None)

    def test_the_count_is_the_one_of_steps(self):
        # The same count with single moves: 999 steps lead to the answer.
        code = counted(6)
        state = after(code, first_state(code), (0, 0, 0))
        steps = 0
        while moves_of(code, state)[0][0] == 1:
            state = after(code, state, (1, 0, 0))
            steps += 1
        self.assertEqual(steps, 999)

    def test_no_answer_ever(self):
        code = code_with(deeds=[("go", loose(("jump", 0)))])
        self.assertIs(whole_deed(code, (), (), "go", 0), None)

    def test_as_one_call_alone(self):
        generator = random.Random(3)
        for _ in range(200):
            words = [("set", 1, generator.randrange(3)), ("add", 0, 0, 1), ("write", 0, 0, 1, 1), ("read", 1, 0, 0),
                     ("test", 1, 0, 1, 0, 2), ("count", 1, 1, 0, 0, 0), ("swap", 0, 0, 1), ("less", 1, 1, 0)]
            told = [one for one in generator.choices(words, k=5)] + [("jump", 0, 1), ("answer", 0)]
            deed = [(one, one[0] != "answer" and generator.random() < 0.5 and one[0] != "jump") for one in told]
            code = CodeBook(3, 2, [[0, 1, 2]], [], [[("go", 0), ("go", 1), ("go", 2)]], [("go", deed)])
            item = generator.randrange(3)
            state = after(code, first_state(code), (0, 0, item))
            for _ in range(1000):
                (move,) = moves_of(code, state)
                state = after(code, state, move)
                if move[0] == 2:
                    break
            told = whole_deed(code, code.rows, (), "go", item)
            if move[0] == 2 and told is not None:
                self.assertEqual(told, (state[0], state[1], move[2]))
            else:
                self.assertIs(told, None)

    def test_arguments_stay(self):
        code = tally([0, 1]).code
        cells = ((0, 0),)
        whole_deed(code, cells, (), "raise", 1)
        self.assertEqual([cells, code.rows], [((0, 0),), ((0, 0),)])


class AtomicBooks(unittest.TestCase):
    def test_example(self):
        code = tally([0, 1]).code
        self.assertEqual(
            [whole_deed(code, ((1, 0),), (), "count", 0), atomic(code).states, atomic(code).choices[:3]],
            [(((1, 0),), (), 1), 4, (("raise", 0, 0, 1, 1), ("raise", 0, 1, 2, 1), ("count", 0, 0, 0, 0))])

    def test_items_by_place_of_the_deed_then_by_argument(self):
        ports = [[("two", 1), ("one", 1)], [("two", 0), ("two", 1), ("one", 0)]]
        deeds = [("two", loose(("answer", 0))), ("none", loose(("answer", 0))), ("one", loose(("answer", 0)))]
        self.assertEqual(atomic(code_with(ports=ports, deeds=deeds)).choices,
                         (("two", 0, 0, 0, 0), ("two", 0, 1, 0, 1), ("one", 0, 0, 0, 0), ("one", 0, 1, 0, 1)))

    def test_numbers_are_breadth_first(self):
        deeds = [("down", loose(("count", 1, 3, 0, 0), ("answer", 1))), ("up", loose(("count", 1, 1, 0, 0), ("answer", 1)))]
        code = code_with(modulus=4, registers=2, rows=[[2]], ports=[[("up", 0), ("down", 0)]], deeds=deeds)
        book = atomic(code)
        # The states are 2, 1, 3, 0.
        self.assertEqual([book.states, book.first], [4, 0])
        self.assertEqual(book.choices, (("down", 0, 0, 1, 2), ("up", 0, 0, 2, 2), ("down", 1, 0, 3, 1), ("up", 1, 0, 0, 1),
                                        ("down", 2, 0, 0, 3), ("up", 2, 0, 3, 3), ("down", 3, 0, 2, 0), ("up", 3, 0, 1, 0)))

    def test_no_choice_where_the_deed_gives_nothing(self):
        code = code_with(parts=[("cell", CELL)], ports=[[("go", 0), ("turn", 1)]], deeds=[
            ("turn", loose(("use", 0, 0, "put", 0), ("answer", 0))), ("go", loose(("use", 0, 0, "wait", 0), ("answer", 0)))])
        self.assertEqual(fields_of(atomic(code)),
                         ("plain", 2, 0, (("turn", 0, 1, 1, 0), ("turn", 1, 1, 1, 1), ("go", 1, 0, 0, 1))))

    def test_no_items(self):
        self.assertEqual(fields_of(atomic(code_with(ports=[[], []]))), ("plain", 1, 0, ()))

    def test_600_states(self):
        book = atomic(chained(600))
        self.assertEqual([book.states, len(book.choices), book.choices[598]], [600, 599, ("up", 598, 0, 599, 0)])
        book = atomic(chained(599, last=True))
        self.assertEqual([book.states, book.choices[-1]], [600, ("top", 599, 0, 599, 1)])

    def test_601_states(self):
        with self.assertRaises(TooLarge):
            atomic(chained(600, last=True))

    def test_far_more_states(self):
        deeds = [("go", loose(("count", 1, 1, 0, 0, 0), ("count", 1, 1, 1, 0, 0), ("answer", 1)))]
        code = CodeBook(8, 2, [[0] * 8] * 2, [], [[("go", number) for number in range(6)]], deeds)
        with self.assertRaises(TooLarge):
            atomic(code)

    def test_fused_lines_change_nothing(self):
        deeds = [("go", lines("+", ("count", 1, 1, 0, 0), ("count", 1, 1, 0, 1), ("answer", 1)))]
        again = [("go", loose(("count", 1, 1, 0, 0), ("count", 1, 1, 0, 1), ("answer", 1)))]
        books = [atomic(CodeBook(3, 2, [[0, 1]], [], [[("go", 0)]], told)) for told in (deeds, again)]
        self.assertEqual(fields_of(books[0]), fields_of(books[1]))

    def test_stairs(self):
        book = atomic(stairs(1).code)
        self.assertEqual(fields_of(book), ("plain", 1, 0, (("pick", 0, 0, 0, 0), ("hit", 0, 0, 0, 1), ("down", 0, 0, 0, 0))))
