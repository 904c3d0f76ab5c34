import unittest

from oddskept.families import stairs, tally
from oddskept.judges import script_worth
from oddskept.levels import grade_of
from oddskept.plainbook import PlainBook
from oddskept.scripts import make_script
from oddskept.shares import Share
from oddskept.stocks import Stock, first_plain
from oddskept.tables import make_ladder, make_table
from oddskept.verdicts import Verdict, judge_verdict, make_verdict
from tests.helpers import broken_tally, code_with, fused_tally, is_exact, long_stairs, stocks_of_all_grades
from tests.test_judges import STAIRS, wrapped

GRADES = (None, -1, 0, 1, 2, 3, 10 ** 20, -10 ** 20)


def changed(verdict, **fields):
    told = {"grade": verdict.grade, "low": verdict.low, "high": verdict.high, "worth": verdict.worth}
    return Verdict(**{**told, **fields})


class Verdicts(unittest.TestCase):
    def check(self, stock):
        made = make_verdict(stock)
        self.assertIs(type(made), Verdict)
        self.assertEqual(made.grade, grade_of(stock))
        self.assertIs(judge_verdict(stock, made), True)
        self.assertTrue(is_exact(made.low or ()) and is_exact(made.high or ()))
        if made.grade is None:
            self.assertEqual((made.high, made.worth), (None, None))
        else:
            self.assertEqual(made.worth, script_worth(stock, made.high))
            self.assertIs(made.low is None, made.grade == 0)
        if made.grade:
            self.assertEqual(len(made.low), made.grade)
        for grade in GRADES:
            if grade != made.grade:
                self.assertIs(judge_verdict(stock, changed(made, grade=grade)), False)
        return made

    def test_fields_as_they_are_passed(self):
        low, high, worth = ((),), ((), ()), Share(1, 2)
        made = Verdict(7, low, high, worth)
        self.assertEqual(made.grade, 7)
        self.assertIs(made.low, low)
        self.assertIs(made.high, high)
        self.assertIs(made.worth, worth)
        made = Verdict(None, None, None, None)
        self.assertEqual((made.grade, made.low, made.high, made.worth), (None,) * 4)

    def test_example(self):
        told = make_verdict(stairs(2))
        other = Verdict(None, told.low, told.high, told.worth)
        self.assertEqual([told.grade, len(told.low), str(told.worth), judge_verdict(stairs(2), told), judge_verdict(stairs(2), other)],
                         [2, 2, "3/4", True, False])

    def test_all_grades(self):
        for height in range(1, 7):
            self.assertEqual(self.check(stairs(height)).worth, Share(2 ** height - 1, 2 ** height))
        self.check(tally([0, 1]))
        self.check(broken_tally())
        self.check(fused_tally())
        self.check(Stock(code_with(ports=[[]]), PlainBook(1, 0, [])))
        self.check(long_stairs(30))

    def test_random_stocks(self):
        for stock in stocks_of_all_grades(101, 30):
            self.check(stock)


class Judge(unittest.TestCase):
    def refuse(self, stock, *fields):
        self.assertIs(judge_verdict(stock, Verdict(*fields)), False)

    def test_none_where_it_may_not_stand(self):
        for stock in (stairs(2), broken_tally(), fused_tally()):
            made = make_verdict(stock)
            for name in ("low", "high", "worth"):
                if getattr(made, name) is not None:
                    self.assertFalse(judge_verdict(stock, changed(made, **{name: None})))

    def test_something_where_none_stands(self):
        stock = fused_tally()
        made = make_verdict(stock)
        self.assertFalse(judge_verdict(stock, changed(made, high=((), ()))))
        self.assertFalse(judge_verdict(stock, changed(made, worth=Share(0))))
        self.assertFalse(judge_verdict(stock, changed(made, high=((), ()), worth=Share(0))))
        stock = broken_tally()
        self.assertFalse(judge_verdict(stock, changed(make_verdict(stock), low=())))
        self.assertFalse(judge_verdict(stock, changed(make_verdict(stock), low=make_table(fused_tally()))))

    def test_number_of_lists(self):
        stock = stairs(3)
        made = make_verdict(stock)
        for low in (made.low[:2], made.low + made.low[2:], (), made.low[1:]):
            self.assertFalse(judge_verdict(stock, changed(made, low=low)))
        # A ladder of two lists shows less, and a script that stands at 3 throws shows no less.
        self.refuse(stock, 2, make_ladder(stock, 1), made.high, made.worth)
        self.refuse(stock, 4, made.low, made.high, made.worth)
        self.refuse(stock, 4, made.low + made.low[2:], made.high, made.worth)

    def test_ladders_of_one_list(self):
        for stock in (stairs(1), tally([0, 1])):
            made = make_verdict(stock)
            for low in ((), ((),), (made.low[0][1:],), made.low * 2, (made.low[0] + ((made.low[0][0][0], ()),),)):
                self.assertFalse(judge_verdict(stock, changed(made, low=low)))
            self.assertTrue(judge_verdict(stock, changed(made, low=(made.low[0][::-1],))))

    def test_papers(self):
        stock = stairs(2)
        made = make_verdict(stock)
        self.refuse(stock, 2, (made.low[1], made.low[0]), made.high, made.worth)
        self.refuse(stock, 2, (made.low[0], made.low[1][1:]), made.high, made.worth)
        row, children = made.high
        for high in ((row, children[::-1]), (row[1:], children), (row, children[:1]), ((), ()), make_script(stairs(1))):
            self.assertFalse(judge_verdict(stock, changed(made, high=high, worth=script_worth(stock, high))))
        stock = fused_tally()
        table = make_table(stock)
        self.refuse(stock, None, table[1:], None, None)
        self.refuse(stock, None, (), None, None)
        self.refuse(stairs(1), None, (), None, None)

    def test_other_papers_of_the_same_grade(self):
        stock = stairs(2)
        made = make_verdict(stock)
        high = wrapped(made.high, first_plain(stock))
        self.assertTrue(judge_verdict(stock, changed(made, high=high)))
        self.assertTrue(judge_verdict(stock, changed(made, low=tuple(nodes[::-1] for nodes in made.low))))
        stock = fused_tally()
        table = make_table(stock)
        self.assertTrue(judge_verdict(stock, Verdict(None, table[::-1] + table, None, None)))

    def test_too_many_throws(self):
        # The grade is 0, and a script with one throw is accepted, too.
        choices = [choice for choice in stairs(1).plain.choices if choice[:2] not in (("hit", 2), ("down", 3))]
        plain = PlainBook(4, 1, choices + [("hit", 2, 0, 0, 0), ("down", 3, 0, 0, 1)])
        wrong = PlainBook(4, 1, [choice for choice in plain.choices if choice[:2] != ("hit", 1)] + [("hit", 1, 0, 0, 0)])
        stock = Stock(stairs(1).code, wrong)
        self.assertEqual(grade_of(stock), 0)
        made = make_verdict(stock)
        self.assertTrue(judge_verdict(stock, made))
        self.refuse(stock, 0, None, STAIRS, script_worth(stock, STAIRS))
        self.refuse(stock, 1, None, STAIRS, script_worth(stock, STAIRS))

    def test_worths(self):
        stock = stairs(2)
        made = make_verdict(stock)
        for worth in (Share(1, 2), Share(1), Share(0), Share(-3, 4), Share(5, 4)):
            self.assertFalse(judge_verdict(stock, changed(made, worth=worth)))
        self.assertTrue(judge_verdict(stock, changed(made, worth=Share(6, 8))))
        stock = broken_tally()
        made = make_verdict(stock)
        self.assertEqual(made.worth, Share(0))
        self.assertFalse(judge_verdict(stock, changed(made, worth=Share(1, 2))))

    def test_a_low_of_the_wrong_kind_is_not_read(self):
        """Another grade in a right verdict is refused ahead of its papers."""
        for stock in (fused_tally(), stairs(2), tally([0, 1]), broken_tally()):
            made = make_verdict(stock)
            for grade in GRADES:
                self.assertIs(judge_verdict(stock, changed(made, grade=grade)), grade == made.grade)
        # A table of so many pairs as the grade has lists is still refused by its missing high.
        stock = Stock(code_with(ports=[[]]), PlainBook(1, 0, []))
        self.assertFalse(judge_verdict(stock, changed(make_verdict(stock), grade=1)))

    def test_negative_grades(self):
        stock = broken_tally()
        made = make_verdict(stock)
        for low in (None, ()):
            self.refuse(stock, -1, low, made.high, made.worth)
