import itertools
import random
import unittest

from oddskept.codebook import CodeBook
from oddskept.codestates import code_states
from oddskept.errors import BadBook, Unfit
from oddskept.families import stairs, tally
from oddskept.fusing import fuse, thin
from oddskept.levels import grade_of
from oddskept.mends import find_mends
from oddskept.plainbook import PlainBook
from oddskept.stocks import Stock
from oddskept.uses import find_uses
from oddskept.wholedeeds import atomic
from tests.helpers import code_with, fused_tally, guessing_stock, is_exact, loose, random_code, random_plain, shuffled

TALLY = tally([0, 1])
THIN = Stock(thin(TALLY.code), TALLY.plain)
SPOTS = [("raise", 0), ("raise", 1), ("count", 0), ("count", 1), ("count", 2), ("count", 3)]


def meets(grade, wish):
    return grade is None or (wish is not None and grade >= wish)


def subsets(items):
    items = sorted(items)
    return [one for many in range(len(items) + 1) for one in itertools.combinations(items, many)]


def borders(sets, good):
    """The least of the good sets and the greatest of the bad ones, as points 54 and 55 word it."""
    least = [one for one in sets if good[one] and not any(good[other] and set(other) < set(one) for other in sets)]
    greatest = [one for one in sets if not good[one] and not any(not good[other] and set(one) < set(other) for other in sets)]
    return tuple(sorted(least)), tuple(sorted(greatest))


def mends_by_hand(stock, candidates, wish):
    good = {}
    for spots in subsets(candidates):
        try:
            good[spots] = meets(grade_of(Stock(fuse(stock.code, spots), stock.plain)), wish)
        except BadBook:
            continue
    return borders(list(good), good)


def uses_by_hand(stock, wish):
    code = stock.code
    items = [(port, item) for port, menu in enumerate(code.ports) for item in range(len(menu))]
    unsafe = {}
    for chosen in subsets(items):
        ports = [[one for item, one in enumerate(menu) if (port, item) in chosen] for port, menu in enumerate(code.ports)]
        other = CodeBook(code.modulus, code.registers, code.rows, code.parts, ports, code.deeds)
        unsafe[chosen] = not meets(grade_of(Stock(other, stock.plain)), wish)
    least, greatest = borders(list(unsafe), unsafe)
    return greatest, least


class Mends(unittest.TestCase):
    def refuse(self, stock, candidates):
        for wish in (None, 1, 2):
            with self.assertRaises(Unfit) as caught:
                find_mends(stock, candidates, wish=wish)
            self.assertIs(type(caught.exception), Unfit)

    def check(self, stock, candidates, wish):
        told = find_mends(stock, candidates, wish=wish)
        self.assertTrue(is_exact(told) and type(told) is tuple and len(told) == 2)
        self.assertEqual(told, mends_by_hand(stock, candidates, wish))
        return told

    def test_example(self):
        self.assertEqual(find_mends(THIN, [("raise", 1), ("count", 0)], wish=None), (((("count", 0),),), ((("raise", 1),),)))

    def test_the_tally(self):
        both = (("count", 0), ("count", 1))
        rest = (("count", 2), ("count", 3), ("raise", 0), ("raise", 1))
        wanted = ((both,), ((both[0], *rest), (both[1], *rest)))
        for candidates in (SPOTS, SPOTS[::-1], tuple(SPOTS)):
            self.assertEqual(self.check(TALLY, candidates, None), wanted)
        self.assertEqual(find_mends(TALLY, SPOTS, wish=2), wanted)

    def test_wishes(self):
        # All grades meet a wish, or none does.
        for wish in (1, 2, 3, 10 ** 20, None):
            for height in (1, 2, 3):
                told = self.check(stairs(height), [("hit", 0)], wish)
                if wish is not None and height >= wish:
                    self.assertEqual(told, (((),), ()))
                else:
                    self.assertEqual(told, ((), ((("hit", 0),),)))
            self.assertEqual(self.check(fused_tally(), [("count", 3)], wish), (((),), ()))

    def test_no_candidates(self):
        self.assertEqual(self.check(TALLY, [], None), ((), ((),)))
        self.assertEqual(self.check(TALLY, (), 1), (((),), ()))

    def test_sets_that_are_not_allowed(self):
        """A wait for a flag: its lines may not all be fused."""
        code = code_with(registers=2, rows=[[0]], ports=[[("see", 0)], [("up", 0)]], deeds=[
            ("see", loose(("read", 0, 0, 0), ("jump", 3, 0), ("jump", 0), ("read", 1, 0, 0), ("answer", 1))),
            ("up", loose(("set", 1, 1), ("write", 1, 0, 0), ("answer", 1)))])
        stock = Stock(code, PlainBook(2, 0, [("see", 1, 0, 1, 1), ("up", 0, 0, 1, 1), ("up", 1, 0, 1, 1)]))
        spots = [("see", 0), ("see", 1), ("see", 2), ("see", 3)]
        for wish in (None, 1):
            self.check(stock, spots, wish)
        wrong = Stock(code, PlainBook(1, 0, []))
        self.assertEqual(self.check(wrong, spots, 1), ((), (
            (("see", 0), ("see", 1), ("see", 3)), (("see", 0), ("see", 2), ("see", 3)), (("see", 1), ("see", 2), ("see", 3)))))
        # Not even one line may be fused.
        ring = Stock(code_with(deeds=[("go", loose(("jump", 0)))]), PlainBook(1, 0, []))
        self.assertEqual(self.check(ring, [("go", 0)], None), (((),), ()))

    def test_eight_candidates_and_nine(self):
        stock = Stock(code_with(ports=[[("go", 0)]], deeds=[("go", loose(*[("set", 0, 1)] * 9, ("answer", 0)))]), PlainBook(1, 0, [("go", 0, 0, 0, 1)]))
        spots = [("go", at) for at in range(9)]
        self.assertEqual(self.check(stock, spots[:8], None), (((),), ()))
        self.refuse(stock, spots)
        other = Stock(stock.code, PlainBook(1, 0, []))
        self.assertEqual(self.check(other, spots[1:], None), ((), (tuple(spots[1:]),)))

    def test_candidates_that_are_refused(self):
        for spot in (("raise", 2), ("count", 4), ("raise", 3), ("raise", -1), ("nobody", 0), ("count", 10 ** 9)):
            self.refuse(TALLY, [spot])
            self.refuse(TALLY, [("count", 0), spot])
        self.refuse(TALLY, [("count", 0), ("count", 0)])
        self.refuse(TALLY, [("count", 0), ("count", 1), ("count", 0)])
        # What is fused already.
        self.refuse(THIN, [("raise", 0)])
        self.refuse(THIN, [("count", 0), ("count", 1)])

    def test_random_stocks(self):
        generator = random.Random(481)
        met = {}
        while sum(met.values()) < 40:
            code = random_code(generator)
            spots = [(name, at) for name, deed in code.deeds for at, (one, fused) in enumerate(deed) if one[0] != "answer" and not fused]
            if spots and len(code_states(code)) < 60:
                plain = generator.choice([atomic(code), random_plain(generator, ["go", "hit"])])
                least, greatest = self.check(Stock(code, plain), shuffled(generator, spots), generator.choice([None, 1, 2]))
                met[len(least), len(greatest)] = met.get((len(least), len(greatest)), 0) + 1
        self.assertGreater(len(met), 2)

    def test_arguments_stay(self):
        candidates = [("count", 1), ("count", 0)]
        find_mends(TALLY, candidates, wish=None)
        self.assertEqual(candidates, [("count", 1), ("count", 0)])


class Uses(unittest.TestCase):
    def check(self, stock, wish):
        told = find_uses(stock, wish=wish)
        self.assertTrue(is_exact(told) and type(told) is tuple and len(told) == 2)
        self.assertEqual(told, uses_by_hand(stock, wish))
        return told

    def test_example(self):
        self.assertEqual(self.check(THIN, None), ((((0, 0), (1, 0)), ((0, 0), (2, 0)), ((1, 0), (2, 0))), (((0, 0), (1, 0), (2, 0)),)))

    def test_wishes(self):
        self.assertEqual(self.check(THIN, 1), ((((0, 0), (1, 0), (2, 0)),), ()))
        self.assertEqual(find_uses(THIN, wish=2), find_uses(THIN, wish=None))
        for height in (1, 2, 3):
            for wish in (1, 2, 3, 4, None):
                told = self.check(stairs(height), wish)
                safe = wish is not None and wish <= height
                self.assertEqual(told[0] == (((0, 0), (0, 1), (0, 2)),), safe)

    def test_nothing_is_safe_but_the_empty_set(self):
        stock = Stock(stairs(1).code, PlainBook(1, 0, []))
        for wish in (None, 1):
            self.assertEqual(self.check(stock, wish), (((),), (((0, 0),), ((0, 1),), ((0, 2),))))

    def test_empty_menus(self):
        stock = Stock(code_with(ports=[[], []]), PlainBook(1, 0, []))
        self.assertEqual(self.check(stock, None), (((),), ()))
        stock = Stock(code_with(ports=[[], [("go", 1), ("go", 0)], []]), PlainBook(1, 0, [("go", 0, 0, 0, 0)]))
        self.assertEqual(self.check(stock, None), ((((1, 1),),), (((1, 0),),)))

    def test_eight_items_and_nine(self):
        plain = PlainBook(1, 0, [("go", 0, argument, 0, argument) for argument in (0, 2, 3, 4, 5)])
        menu = [("go", argument) for argument in range(4)]
        stock = Stock(code_with(modulus=6, ports=[menu, menu]), plain)
        self.assertEqual(self.check(stock, None), ((((0, 0), (0, 2), (0, 3), (1, 0), (1, 2), (1, 3)),), (((0, 1),), ((1, 1),))))
        for ports in ([menu, menu + [("go", 4)]], [menu, menu, [("go", 0)]], [[("go", argument) for argument in range(6)], menu]):
            for wish in (None, 1):
                with self.assertRaises(Unfit) as caught:
                    find_uses(Stock(code_with(modulus=6, ports=ports), plain), wish=wish)
                self.assertIs(type(caught.exception), Unfit)

    def test_random_stocks(self):
        generator = random.Random(482)
        met = {}
        while sum(met.values()) < 50:
            stock = guessing_stock(generator, 2)
            if generator.random() < 0.5:
                code = random_code(generator)
                stock = Stock(code, generator.choice([atomic(code), random_plain(generator, ["go", "hit"])]))
            if len(code_states(stock.code)) < 60:
                greatest, least = self.check(stock, generator.choice([None, 1, 2]))
                met[len(greatest), len(least)] = met.get((len(greatest), len(least)), 0) + 1
        self.assertGreater(len(met), 4)
