import random
import unittest
from fractions import Fraction

from oddskept.coderun import after, first_state, moves_of, walk
from oddskept.families import stairs, tally
from oddskept.judges import judge_ladder, judge_script, judge_table, script_throws, script_worth
from oddskept.levels import dead_at
from oddskept.nodes import first_node, next_nodes, pairs_of
from oddskept.plainbook import PlainBook
from oddskept.plainrun import reach
from oddskept.posts import post
from oddskept.scripts import make_script
from oddskept.shares import Share
from oddskept.stocks import Stock, first_plain
from oddskept.tables import make_ladder, make_table
from tests import models
from tests.helpers import (broken_tally, changed_script, code_with, fused_tally, is_exact, long_stairs, random_marks,
                           random_script, shuffled, stocks_of_all_grades)

# The script of point 37, and the one of point 63.
STAIRS = (((0, 0, 0), (2, 0, 0)), (((2, ((),)), (((0, 0, 1), (1, 0, 0), (2, 0, 1)), ())),
                                   ((3, ((),)), (((0, 0, 2), (2, 0, 0)), ()))))
ASKED = (1, ((), (), (0, "count", 0)))
DONE_0 = (1, ((), (), (1, 0)))
TALLY = (((0, 2, 0), (1, 2, 0), (0, 0, 0), (1, 0, 0), (1, 0, 0), (2, 0, 1)), (
    (ASKED, (((1, 2, 0), (1, 2, 0), (1, 2, 0), (2, 2, 0)), ())),
    (DONE_0, (((0, 1, 0), (1, 1, 0), (1, 1, 0), (1, 2, 0), (1, 2, 0), (1, 2, 0), (2, 2, 1)), ()))))
LEAF = ((), ())


def first_pair(stock):
    return (first_state(stock.code), first_plain(stock))


def living_pairs(stock):
    """The reachable pairs that are never dead: an accepted table, if the first pair is among them."""
    return tuple(pair for pair in pairs_of(stock) if dead_at(stock, pair) is None)


def whole_ladder(stock, height):
    """The ladder of all nodes that moves and single members lead to, and that are not dead at their list's number."""
    nodes = [first_node(stock)]
    for node in nodes:
        for one in [goal for _, goal in next_nodes(stock, node)] + [(node[0], (member,)) for member in node[1]]:
            if one not in nodes:
                nodes.append(one)
    levels = {}
    for number in range(height + 1):
        levels[number] = []
        for start in nodes:
            found = [start]
            for node in found:
                found += [goal for _, goal in next_nodes(stock, node) if goal not in found]
            below = levels.get(number - 1)
            if below is None:
                alive = all(members for _, members in found)
            else:
                alive = all(any((state, (member,)) in below for member in members) for state, members in found)
            if alive:
                levels[number].append(start)
    return tuple(tuple(levels[number]) for number in range(height + 1))


def wrapped(script, member):
    """The script behind a place with an empty row."""
    return ((), ((member, script),))


def deep_chain(depth, member, end=LEAF):
    """A script with a place of one child for each unit of the depth."""
    script = end
    for _ in range(depth):
        script = wrapped(script, member)
    return script


class Tables(unittest.TestCase):
    def check(self, stock, table):
        told = judge_table(stock, table)
        self.assertIs(told, models.table_is_accepted(stock, table))
        return told

    def test_right(self):
        stock = fused_tally()
        table = living_pairs(stock)
        self.assertIs(judge_table(stock, table), True)
        self.assertTrue(judge_table(stock, table[::-1]))
        self.assertTrue(judge_table(stock, table + table[:5]))

    def test_empty(self):
        for stock in (fused_tally(), stairs(1), Stock(code_with(ports=[[]]), PlainBook(1, 0, []))):
            self.assertIs(judge_table(stock, ()), False)

    def test_no_moves(self):
        stock = Stock(code_with(ports=[[]]), PlainBook(1, 0, []))
        self.assertTrue(judge_table(stock, (first_pair(stock),)))
        self.assertTrue(judge_table(stock, (first_pair(stock),) * 2))

    def test_one_pair_missing(self):
        stock = fused_tally()
        table = make_table(stock)
        for at in range(0, len(table), 7):
            self.assertFalse(self.check(stock, table[:at] + table[at + 1:]))
        self.assertFalse(judge_table(stock, tuple(pair for pair in table if pair != first_pair(stock))))

    def test_one_pair_more(self):
        stock = fused_tally()
        table = living_pairs(stock)
        idle = first_state(stock.code)
        # The first one is not reached and can be followed by nobody; the second one can.
        self.assertFalse(self.check(stock, table + ((idle, (0, ((1, 1), (), ()))),)))
        self.assertFalse(self.check(stock, table + ((idle, (3, ((), (), ()))),)))
        stock = Stock(stairs(1).code, PlainBook(2, 0, [(deed, state, 0, 0, answer) for state in (0, 1)
                                                       for deed, answer in (("pick", 0), ("hit", 1), ("down", 0))]))
        table = living_pairs(stock)
        self.assertTrue(self.check(stock, table))
        self.assertTrue(self.check(stock, table + ((((), (), (("pick", 0, (0,)),)), (1, ((0, "pick", 0),))),)))
        self.assertFalse(self.check(stock, table + ((first_state(stock.code), (1, ((),))),)))

    def test_the_whole_post_is_asked(self):
        # In this table every asked port has taken behind each answer, though no front has such a state.
        code = code_with(ports=[[("go", 0)], [("go", 0)]])
        stock = Stock(code, PlainBook(1, 0, [("go", 0, 0, 0, 0)]))
        table = [first_pair(stock)]
        for state, plain in table:
            for move in moves_of(code, state):
                goal = (after(code, state, move), max(post(stock, plain, move), key=lambda one: sum(len(mark) == 2 for mark in one[1])))
                if goal not in table:
                    table.append(goal)
        self.assertGreater(len(set(table) - set(pairs_of(stock))), 0)
        self.assertTrue(self.check(stock, tuple(table)))

    def test_no_table_for_a_number(self):
        for stock in (stairs(1), broken_tally(), tally([0, 1])):
            self.assertFalse(judge_table(stock, tuple(pairs_of(stock))))

    def test_random_tables(self):
        generator = random.Random(61)
        found = [0, 0]
        for stock in stocks_of_all_grades(62, 24):
            pairs = pairs_of(stock)
            living = living_pairs(stock)
            for table in (tuple(pairs), living, tuple(shuffled(generator, living)), living[1:], living * 2,
                          tuple(generator.sample(living, len(living) * 3 // 4)), living + tuple(generator.sample(pairs, 1)),
                          living + ((generator.choice(pairs)[0], (0, random_marks(generator, ["hit"], len(stock.code.ports)))),)):
                found[self.check(stock, table)] += 1
        self.assertGreater(min(found), 20)


class Ladders(unittest.TestCase):
    def check(self, stock, ladder):
        told = judge_ladder(stock, ladder)
        self.assertIs(told, models.ladder_is_accepted(stock, ladder))
        return told

    def test_right(self):
        for stock, height in ((stairs(1), 0), (stairs(2), 1), (stairs(3), 1), (stairs(3), 2), (tally([0, 1]), 0), (fused_tally(), 2)):
            ladder = make_ladder(stock, height)
            self.assertIs(judge_ladder(stock, ladder), True)
            self.assertTrue(judge_ladder(stock, tuple(nodes[::-1] + nodes[:2] for nodes in ladder)))

    def test_whole_ladders(self):
        for stock, height in ((stairs(1), 0), (stairs(2), 0), (stairs(2), 1), (stairs(3), 2)):
            self.assertTrue(self.check(stock, whole_ladder(stock, height)))
        self.assertFalse(self.check(stairs(1), whole_ladder(stairs(1), 1)))
        self.assertFalse(self.check(stairs(2), whole_ladder(stairs(2), 2)))

    def test_empty(self):
        self.assertIs(judge_ladder(stairs(1), ()), False)
        self.assertIs(judge_ladder(stairs(1), ((),)), False)
        self.assertIs(judge_ladder(stairs(2), ((), ())), False)
        self.assertIs(judge_ladder(stairs(2), (make_ladder(stairs(2), 1)[0], ())), False)

    def test_empty_list_below(self):
        self.assertFalse(judge_ladder(stairs(2), ((), make_ladder(stairs(2), 1)[1])))

    def test_first_node_in_the_last_list(self):
        stock = stairs(2)
        lower, upper = make_ladder(stock, 1)
        self.assertFalse(self.check(stock, (upper, lower)))
        self.assertFalse(self.check(stock, (upper, tuple(node for node in upper if node != first_node(stock)))))

    def test_one_node_missing(self):
        for stock, height in ((stairs(2), 1), (stairs(3), 2)):
            ladder = make_ladder(stock, height)
            for number, nodes in enumerate(ladder):
                for at in range(len(nodes)):
                    told = self.check(stock, (*ladder[:number], nodes[:at] + nodes[at + 1:], *ladder[number + 1:]))
                    self.assertFalse(told and number == height)

    def test_nodes_without_members(self):
        stock = stairs(1)
        ladder = make_ladder(stock, 0)
        idle = first_state(stock.code)
        self.assertFalse(self.check(stock, (ladder[0] + ((idle, ()),),)))
        without = Stock(code_with(ports=[[]]), PlainBook(1, 0, []))
        self.assertTrue(self.check(without, ((first_node(without),),)))
        self.assertFalse(self.check(without, ((first_node(without), (first_state(without.code), ())),)))

    def test_members_in_any_order_and_twice(self):
        # A node that is not a front may stand in a list; only the nodes to which moves lead are fronts.
        stock = stairs(2)
        ladder = make_ladder(stock, 0)
        idle = first_state(stock.code)
        for members in (((6, ((),)), (5, ((),))), ((5, ((),)), (5, ((),)), (6, ((),))), ((4, ((),)), (0, ((),)))):
            more = [(idle, members)]
            for node in more:
                more += [goal for _, goal in next_nodes(stock, node) if goal not in more]
            self.assertTrue(self.check(stock, (ladder[0] + tuple(more),)))

    def test_lists_of_their_own(self):
        """Moves stay in a list; a node that is only in another list does not count."""
        stock = stairs(3)
        ladder = make_ladder(stock, 2)
        for number in range(3):
            self.assertTrue(self.check(stock, ladder[:number] + (tuple(dict.fromkeys(ladder[number] + ladder[2])),) + ladder[number + 1:]))
        self.assertFalse(self.check(stock, ladder[:2] + (ladder[2][:1],)))

    def test_lists_that_are_equal(self):
        """A list twice or three times is asked the same as different ones."""
        good = fused_tally()
        nodes = make_ladder(good, 3)[0]
        for many in (1, 2, 3, 4, 1001):
            self.assertTrue(judge_ladder(good, (nodes,) * many))
        stock = stairs(1)
        nodes = make_ladder(stock, 0)[0]
        for many in range(1, 6):
            self.assertIs(self.check(stock, (nodes,) * many), many == 1)
        stock = stairs(2)
        lower, upper = make_ladder(stock, 1)
        for ladder in ((lower, upper, upper), (lower, lower, upper), (lower, lower, lower, upper), (lower, upper, upper, upper),
                       (lower, lower, upper, upper)):
            self.assertFalse(self.check(stock, ladder))

    def test_without_the_last_list(self):
        stock = stairs(3)
        ladder = make_ladder(stock, 2)
        self.assertEqual([self.check(stock, ladder[:many]) for many in range(4)],
                         [False, first_node(stock) in ladder[0], first_node(stock) in ladder[1], True])
        whole = whole_ladder(stock, 2)
        self.assertEqual([self.check(stock, whole[:many]) for many in range(4)], [False, True, True, True])

    def test_random_ladders(self):
        generator = random.Random(63)
        found = [0, 0]
        for stock in stocks_of_all_grades(64, 18):
            for height in (0, 1, 2):
                ladder = make_ladder(stock, height) or whole_ladder(stock, height)
                found[self.check(stock, ladder)] += 1
                at = generator.randrange(height + 1)
                nodes = shuffled(generator, ladder[at])
                state, plain = generator.choice(pairs_of(stock))
                for other in (nodes[1:], nodes * 2, [*nodes, (state, (plain,))], [*nodes, (state, (plain, first_plain(stock)))]):
                    found[self.check(stock, (*ladder[:at], tuple(other), *ladder[at + 1:]))] += 1
        self.assertGreater(min(found), 30)


class Scripts(unittest.TestCase):
    def check(self, stock, script):
        told = judge_script(stock, script)
        self.assertIs(told, models.script_is_accepted(stock, script))
        return told

    def test_right(self):
        self.assertIs(judge_script(stairs(1), STAIRS), True)
        self.assertIs(judge_script(tally([0, 1]), TALLY), True)
        self.assertTrue(judge_script(broken_tally(), make_script(broken_tally())))

    def test_empty_rows(self):
        stock = stairs(1)
        first = first_plain(stock)
        self.assertTrue(self.check(stock, wrapped(STAIRS, first)))
        self.assertTrue(self.check(stock, deep_chain(59, first, STAIRS)))
        self.assertFalse(self.check(stock, LEAF))
        self.assertFalse(self.check(stock, wrapped(STAIRS, (0, ((),)))))
        self.assertFalse(self.check(stock, ((), ((first, STAIRS), (first, STAIRS)))))

    def test_deep_scripts(self):
        stock = stairs(1)
        self.assertTrue(judge_script(stock, deep_chain(5000, first_plain(stock), STAIRS)))
        self.assertFalse(judge_script(stock, deep_chain(5000, first_plain(stock))))

    def test_rows_of_moves(self):
        row, children = STAIRS
        stock = stairs(1)
        for other in (((0, 0, 0),), row[::-1], row + ((2, 0, 0),), ((0, 0, 1), (2, 0, 0)), ((0, 0, 0), (2, 0, 1)),
                      ((0, 0, 0), (1, 0, 0), (2, 0, 0)), ((0, 0, 2), (2, 0, 0)), row * 2, ()):
            self.assertFalse(self.check(stock, (other, children)))

    def test_a_leaf_needs_an_empty_front(self):
        stock = stairs(1)
        for at in (0, 1):
            children = [list(child) for child in STAIRS[1]]
            children[at][1] = (children[at][1][0][:-1], ())
            self.assertFalse(self.check(stock, (STAIRS[0], tuple(tuple(child) for child in children))))
        # Where the row is impossible for the code, an empty post does not count.
        self.assertFalse(self.check(stock, (((2, 0, 0),), ())))
        self.assertFalse(self.check(stock, (((0, 0, 0), (0, 0, 0)), ())))

    def test_members(self):
        stock = tally([0, 1])
        row, (one, two) = TALLY
        behind = (1, ((), (), (1, 1)))
        for children in ((two, one), (one,), (two,), (one, one, two), (one, two, two), (one, two, (behind, one[1])),
                         ((DONE_0, one[1]), (ASKED, two[1])), (one, (behind, two[1])), ()):
            self.assertFalse(self.check(stock, (row, children)))
        self.assertTrue(self.check(stock, (row, (one, two))))

    def test_children_below(self):
        stock = tally([0, 1])
        row, (one, two) = TALLY
        for other in (LEAF, two[1], (one[1][0][:-1], ()), (one[1][0], ((ASKED, LEAF),))):
            self.assertFalse(self.check(stock, (row, ((ASKED, other), two))))
        self.assertTrue(self.check(stock, (row, ((ASKED, wrapped(one[1], ASKED)), two))))

    def test_changed_scripts(self):
        generator = random.Random(65)
        found = [0, 0]
        for stock in stocks_of_all_grades(66, 24):
            script = make_script(stock) or random_script(generator, stock, 2)
            found[self.check(stock, script)] += 1
            for _ in range(10):
                found[self.check(stock, changed_script(generator, stock, script))] += 1
            found[self.check(stock, wrapped(script, first_plain(stock)))] += 1
        self.assertGreater(min(found), 25)

    def test_long_rows(self):
        stock = stairs(1)
        row = ((0, 0, 1), (1, 0, 0), (2, 0, 1)) * 2000
        member = (0, ((),))
        state = first_state(stock.code)
        self.assertEqual(walk(stock.code, state, row), state)
        self.assertFalse(judge_script(stock, (row, ((member, LEAF),))))
        dead = Stock(stock.code, PlainBook(1, 0, [("pick", 0, 0, 0, 1), ("hit", 0, 0, 0, 1)]))
        self.assertTrue(judge_script(dead, (row, ((member, (((0, 0, 0), (2, 0, 0)), ())),))))
        self.assertTrue(judge_script(dead, (row + ((0, 0, 0), (2, 0, 0)), ())))
        self.assertFalse(judge_script(dead, (row + ((0, 0, 1), (2, 0, 0)), ())))


class Throws(unittest.TestCase):
    def test_told(self):
        member = (0, ((),))
        two = ((), ((member, LEAF), (member, LEAF)))
        three = ((), ((member, LEAF), (member, two), (member, LEAF)))
        told = [(LEAF, 0), (STAIRS, 1), (TALLY, 1), (wrapped(LEAF, member), 0), (wrapped(two, member), 1), (two, 1), (three, 2),
                (((), ((member, wrapped(two, member)), (member, three))), 3), (wrapped(three, member), 2)]
        for script, throws in told:
            self.assertEqual(script_throws(script), throws)
            self.assertIs(type(script_throws(script)), int)

    def test_deep_scripts(self):
        member = (0, ((),))
        self.assertEqual(script_throws(deep_chain(5000, member)), 0)
        self.assertEqual(script_throws(deep_chain(3000, member, STAIRS)), 1)
        script = LEAF
        for _ in range(2000):
            script = ((), ((member, LEAF), (member, script)))
        self.assertEqual(script_throws(script), 2000)

    def test_random_scripts(self):
        generator = random.Random(67)
        for _ in range(200):
            script = random_script(generator, stairs(1), 5)
            self.assertEqual(script_throws(script), models.throws(script))


class Worths(unittest.TestCase):
    def check(self, stock, script):
        told = script_worth(stock, script)
        self.assertIs(type(told), Share)
        self.assertEqual(Fraction(told.top, told.bottom), models.worth(stock, script))
        return told

    def test_told(self):
        self.assertEqual(str(script_worth(stairs(1), STAIRS)), "1/2")
        self.assertEqual(str(script_worth(tally([0, 1]), TALLY)), "1/2")
        for height in range(1, 7):
            told = self.check(stairs(height), make_script(stairs(height)))
            self.assertEqual(told, Share(2 ** height - 1, 2 ** height))

    def test_without_children(self):
        stock = stairs(1)
        told = [((), 1), (((0, 0, 0),), 1), (((2, 0, 0),), 0), (((0, 0, 0), (2, 0, 1)), 0), (((0, 0, 0), (2, 0, 0)), 1),
                (((0, 0, 0), (2, 0, 0), (0, 0, 1), (2, 0, 0)), 1), (((0, 0, 0), (2, 0, 0), (0, 0, 1), (2, 0, 3)), 0)]
        for row, worth in told:
            self.assertEqual(self.check(stock, (row, ())), Share(worth))

    def test_an_empty_post_with_children(self):
        member = (0, ((),))
        self.assertEqual(self.check(stairs(1), (((2, 0, 0),), ((member, LEAF), (member, LEAF)))), Share(0))

    def test_the_greatest_of_the_means(self):
        # The mean of the greatest would be 1/1.
        row, ((member, one), (other, two)) = STAIRS
        self.assertEqual(self.check(stairs(1), STAIRS), Share(1, 2))
        self.assertEqual(self.check(stairs(1), (row, ((member, one), (other, two), (other, two)))), Share(2, 3))
        self.assertEqual(self.check(stairs(1), (row, ((member, one), (other, one)))), Share(1))
        self.assertEqual(self.check(stairs(1), (row, ((member, one), (other, one), (other, two), (other, two), (other, LEAF)))), Share(3, 5))

    def test_members_play_no_part(self):
        row, ((_, one), (_, two)) = STAIRS
        for member in ((0, ((),)), (7, ((1, 3),)), (2, ((), (), ()))):
            self.assertEqual(script_worth(stairs(1), (row, ((member, one), (member, two)))), Share(1, 2))

    def test_one_child(self):
        stock = stairs(1)
        self.assertEqual(self.check(stock, wrapped(STAIRS, first_plain(stock))), Share(1, 2))
        self.assertEqual(self.check(stock, (((0, 0, 0),), ((first_plain(stock), (((2, 0, 0),), STAIRS[1])),))), Share(1, 2))

    def test_deep_scripts(self):
        stock = stairs(1)
        self.assertEqual(script_worth(stock, deep_chain(3000, first_plain(stock), STAIRS)), Share(1, 2))
        self.assertEqual(script_worth(stock, deep_chain(3000, first_plain(stock))), Share(1))
        member, script = (0, ((),)), (((2, 0, 0),), ())
        for _ in range(300):
            script = ((), ((member, LEAF), (member, script)))
        self.assertEqual(script_worth(stock, script), Share(2 ** 300 - 1, 2 ** 300))

    def test_random_scripts(self):
        generator = random.Random(68)
        worths = {}
        for stock in stocks_of_all_grades(69, 24):
            for _ in range(8):
                told = self.check(stock, random_script(generator, stock, 3))
                worths[str(told)] = True
            script = make_script(stock)
            if script is not None:
                for _ in range(4):
                    worths[str(self.check(stock, changed_script(generator, stock, script)))] = True
        self.assertGreater(len(worths), 6)

    def test_reached_by_takes(self):
        """At a state that is reached by takes the worth is at most that at the state before."""
        generator = random.Random(70)
        for stock in stocks_of_all_grades(71, 12):
            script = random_script(generator, stock, 2)
            for _, plain in generator.sample(pairs_of(stock), 2):
                for behind in reach(stock, plain):
                    self.assertLessEqual(models.worth(stock, script, behind), models.worth(stock, script, plain))


class Arguments(unittest.TestCase):
    def test_papers_stay(self):
        self.assertTrue(is_exact(STAIRS) and is_exact(TALLY))
        self.assertTrue(is_exact(make_table(fused_tally())))
        self.assertEqual(judge_script(long_stairs(40), make_script(long_stairs(40))), True)
