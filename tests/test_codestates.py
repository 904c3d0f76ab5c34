import unittest

from oddskept.codestates import code_states
from oddskept.coderun import after, first_state, moves_of
from oddskept.families import stairs, tally
from tests.helpers import CELL, code_with, is_exact, loose


def breadth_first(code):
    """The reached states by the words of the document, member by member."""
    found = [first_state(code)]
    for state in found:
        for move in moves_of(code, state):
            if after(code, state, move) not in found:
                found.append(after(code, state, move))
    return found


class CodeStates(unittest.TestCase):
    def test_stairs(self):
        self.assertEqual(code_states(stairs(1).code), [
            ((), (), ((),)), ((), (), (("pick", 0, (0,)),)), ((), (), (("hit", 0, (0,)),)), ((), (), (("down", 0, (0,)),)),
            ((), (), (("hit", 1, (1,)),))])

    def test_order(self):
        waiting = code_with(registers=2, parts=[("cell", CELL)], ports=[[("go", 1), ("go", 0)], [("turn", 1)], []], deeds=[
            ("go", loose(("use", 1, 0, "wait", 0), ("answer", 1))), ("turn", loose(("use", 1, 0, "put", 0), ("answer", 1)))])
        for code in (tally([1, 0]).code, waiting, code_with(ports=[[], []])):
            states = code_states(code)
            self.assertEqual(states, breadth_first(code))
            self.assertTrue(is_exact(tuple(states)))
            self.assertIs(type(states), list)

    def test_numbers(self):
        self.assertEqual([len(code_states(code)) for code in (tally([0, 1]).code, tally([0, 1, 2]).code)], [494, 5768])

    def test_new_list(self):
        code = stairs(1).code
        code_states(code).clear()
        self.assertEqual(len(code_states(code)), 5)
