import itertools
import random
import unittest

from oddskept.codestates import code_states
from oddskept.codetext import write_code
from oddskept.coderun import first_state, moves_of, walk
from oddskept.errors import BadBook
from oddskept.families import stairs, tally
from oddskept.fusing import fuse, thin
from oddskept.levels import grade_of
from oddskept.stocks import Stock
from oddskept.wholedeeds import atomic, whole_deed
from tests.helpers import CELL, code_with, fields_of, fused_tally, lines, looping_code, loose, random_code, random_plain

LOCAL = ("set", "copy", "add", "less", "same", "jump")


def marks_of(code):
    return {(name, at): fused for name, told in code.deeds for at, (_, fused) in enumerate(told)}


class Fuse(unittest.TestCase):
    def refuse(self, code, spots):
        with self.assertRaises(BadBook) as caught:
            fuse(code, spots)
        self.assertIs(type(caught.exception), BadBook)

    def test_told_lines(self):
        code = tally([0, 1]).code
        for spots in ([], [("count", 0)], [("raise", 0), ("count", 3)], (("raise", 1), ("raise", 0)), [("count", 1), ("count", 1)]):
            told = fuse(code, spots)
            self.assertEqual({spot for spot, fused in marks_of(told).items() if fused}, set(spots))
            self.assertEqual([(name, [one for one, _ in deed]) for name, deed in told.deeds], [(name, [one for one, _ in deed]) for name, deed in code.deeds])
            self.assertEqual((told.modulus, told.registers, told.rows, told.parts, told.ports),
                             (code.modulus, code.registers, code.rows, code.parts, code.ports))
            self.assertTrue(all(type(fused) is bool for fused in marks_of(told).values()))

    def test_lines_that_are_fused_already_stay_so(self):
        code = fuse(tally([0, 1]).code, [("count", 0)])
        for spots in ([("count", 0)], [], [("count", 0), ("count", 0)]):
            self.assertEqual(fields_of(fuse(code, spots)), fields_of(code))
        self.assertEqual(fields_of(fuse(code, [("count", 1), ("count", 2)])), fields_of(fused_tally().code))

    def test_spots_that_are_not_there(self):
        code = tally([0, 1]).code
        for spot in (("raise", 3), ("raise", -1), ("raise", 10 ** 20), ("nobody", 0), ("", 0), ("count", 5), ("Raise", 0)):
            self.refuse(code, [spot])
            self.refuse(code, [("raise", 0), spot])

    def test_answers(self):
        code = tally([0, 1]).code
        for spot in (("raise", 2), ("count", 4)):
            self.refuse(code, [spot])

    def test_rings(self):
        code = code_with(registers=2, deeds=[("go", loose(("set", 0, 1), ("jump", 0, 1), ("copy", 1, 0), ("jump", 0), ("answer", 0))), ("own", loose(("jump", 0)))])
        for spots in ([("go", 0), ("go", 1)], [("own", 0)], [("go", 0), ("go", 1), ("go", 2), ("go", 3)]):
            self.refuse(code, spots)
        for spots in ([("go", 0), ("go", 2), ("go", 3)], [("go", 1), ("go", 2), ("go", 3)]):
            self.assertEqual({spot for spot, fused in marks_of(fuse(code, spots)).items() if fused}, set(spots))
        # A ring with what was fused before.
        self.refuse(fuse(code, [("go", 1)]), [("go", 0)])

    def test_arguments_stay(self):
        code, spots = tally([0, 1]).code, [("count", 0)]
        before = fields_of(code)
        fuse(code, spots)
        thin(code)
        self.assertEqual((spots, fields_of(code)), ([("count", 0)], before))

    def test_whole_deeds_stay(self):
        generator = random.Random(471)
        for _ in range(60):
            code = looping_code(generator)
            told = [thin(code)]
            for spot, fused in marks_of(code).items():
                try:
                    told.append(fuse(code, [spot]))
                except BadBook:
                    continue
            for deed, value, cell, part in itertools.product(("go", "hit", "stay"), (0, 1), (0, 1), (0, 1)):
                given = whole_deed(code, ((cell,),), (part,), deed, value)
                for one in told:
                    self.assertEqual(whole_deed(one, ((cell,),), (part,), deed, value), given)

    def test_moves_are_rows_of_moves(self):
        """Every move of the code with more fused lines is a row of moves of the same port in the code with fewer."""
        generator = random.Random(472)
        done = 0
        for _ in range(40):
            code = looping_code(generator)
            fused = thin(code)
            states = code_states(fused)
            for state in states[:60]:
                for move in moves_of(fused, state):
                    goal = walk(fused, state, [move])
                    self.assertTrue(self.leads(code, state, move, goal))
                    done += 1
        self.assertGreater(done, 500)

    def leads(self, code, state, move, goal):
        if move[0] != 1:
            return walk(code, state, [move]) == goal
        for _ in range(20):
            if move not in moves_of(code, state):
                return False
            state = walk(code, state, [move])
            if state == goal:
                return True
        return False


class Thin(unittest.TestCase):
    def test_example(self):
        self.assertEqual(write_code(thin(tally([0, 1]).code)).split("\n")[6:],
                         ["deed raise", "  set 1 1 +", "  write 1 0 0 0", "  answer 1", "deed count", "  read 1 0 0", "  add 2 2 1 +", "  read 1 0 1",
                          "  add 2 2 1 +", "  answer 2", ""])

    def by_hand(self, code):
        """The words of point 53: line after line, as far as `fuse` does not refuse it."""
        for name, told in code.deeds:
            for at, (instruction, _) in enumerate(told):
                if instruction[0] in LOCAL and not marks_of(code)[name, at]:
                    try:
                        code = fuse(code, [(name, at)])
                    except BadBook:
                        continue
        return code

    def test_all_local_words(self):
        told = [("set", 0, 1), ("copy", 0, 1), ("add", 0, 1, 1), ("less", 0, 1, 1), ("same", 0, 1, 1), ("jump", 6), ("jump", 8, 0)]
        others = [("read", 0, 0, 0), ("write", 0, 0, 0), ("swap", 0, 0, 0), ("test", 0, 0, 0, 0, 0), ("count", 0, 1, 0, 0), ("use", 0, 0, "get", 0)]
        code = thin(code_with(registers=2, rows=[[0]], parts=[("cell", CELL)], deeds=[("go", loose(*told, *others, ("answer", 0)))]))
        self.assertEqual([fused for _, fused in code.lines_of("go")], [True] * 7 + [False] * 7)

    def test_rings(self):
        for told, fused in ((loose(("jump", 0)), [False]), (loose(("set", 0, 1), ("jump", 0)), [True, False]),
                            (lines(("set", 0, 1), "+", ("jump", 0)), [False, True]), (loose(("jump", 1), ("jump", 0)), [True, False]),
                            (loose(("jump", 0, 0), ("set", 0, 0), ("jump", 1)), [False, True, False]),
                            (loose(("set", 0, 1), ("jump", 0, 0), ("answer", 0)), [True, False, False]),
                            (lines(("set", 0, 1), "+", ("read", 0, 0, 0), ("jump", 0)), [True, True, False])):
            code = code_with(rows=[[0]], deeds=[("go", told)])
            self.assertEqual([mark for _, mark in thin(code).lines_of("go")], fused)
            self.assertEqual(fields_of(thin(code)), fields_of(self.by_hand(code)))

    def test_random_codes(self):
        generator = random.Random(473)
        rings = 0
        for _ in range(200):
            code = looping_code(generator)
            told = thin(code)
            self.assertEqual(fields_of(told), fields_of(self.by_hand(code)))
            self.assertEqual(fields_of(thin(told)), fields_of(told))
            rings += any(not fused and dict(told.deeds)[name][at][0][0] in LOCAL for (name, at), fused in marks_of(told).items())
        self.assertGreater(rings, 20)

    def test_the_longest_deeds(self):
        told = [("set", 0, 1)] * 159 + [("jump", 0)]
        code = thin(code_with(deeds=[("go", loose(*told))] + [("d" + str(number), loose(*told)) for number in range(23)]))
        for _, deed in code.deeds:
            self.assertEqual([fused for _, fused in deed], [True] * 159 + [False])

    def test_grades(self):
        """At least the grade; exactly the grade, if only local lines are fused."""
        for stock in (stairs(2), tally([0, 1]), tally([1, 0])):
            self.assertEqual(grade_of(Stock(thin(stock.code), stock.plain)), grade_of(stock))
        generator = random.Random(474)
        met = {}
        while sum(met.values()) < 60:
            code = random_code(generator)
            if len(code_states(code)) > 80:
                continue
            plain = generator.choice([random_plain(generator, ["go", "hit"]), atomic(code)])
            before, behind = grade_of(Stock(code, plain)), grade_of(Stock(thin(code), plain))
            exact = all(deed[at][0][0] in LOCAL for _, deed in code.deeds for at, (_, fused) in enumerate(deed) if fused)
            if exact:
                self.assertEqual(behind, before)
            elif behind is not None:
                self.assertGreaterEqual(behind, before)
            met[exact, behind] = met.get((exact, behind), 0) + 1
        self.assertGreater(len(met), 3)

    def test_a_local_line_can_tie_a_cell_to_the_next_line(self):
        stock = tally([0, 1])
        code = fuse(stock.code, [("count", 0)])
        self.assertEqual(grade_of(Stock(code, stock.plain)), 1)
        told = thin(code)
        self.assertEqual([fused for _, fused in told.lines_of("count")], [True, True, False, True, False])
        self.assertIsNone(grade_of(Stock(told, stock.plain)))
        state = walk(told, first_state(told), [(0, 2, 0), (1, 2, 0), (1, 2, 0)])
        self.assertEqual(state[2][2], ("count", 4, (0, 0, 0)))
