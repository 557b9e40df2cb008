"""Mends: sets of rows, and which of them make a program do what it does under another book (point 29)."""

import itertools
import random

from latequestions.askings import Askings
from latequestions.books import Book
from latequestions.errors import NoField, NoTurn, TooMany
from latequestions.forms import Form
from latequestions.judging import Parts, Same, judge
from latequestions.mends import Mend, Mends, judge_mended
from latequestions.papers import is_paper
from latequestions.programs import Program
from latequestions.worlds import Worlds
from support import ODD_VALUES, Case
from test_judged_runs import show_and_leave_the_same
from test_judging import ELDER, FORM, goals_of
from twinned import random_book, random_program

USUAL, PLAIN, FRESH = Book.usual(), Book.plain(), Book.fresh()


class MendTest(Case):

    def test_rows(self):
        self.same([Mend(3, 1, 3).rows, Mend().rows, Mend(-1, -2, 10 ** 40).rows], [(1, 3), (), (-2, -1, 10 ** 40)])
        self.same([len(Mend(3, 1, 3)), len(Mend())], [2, 0])
        self.same([bool(Mend(0)), bool(Mend())], [True, False])
        self.same([str(Mend(3, 1)), str(Mend(1)), str(Mend()), str(Mend(12, 0, 5))],
                  ["rows 1, 3", "rows 1", "no rows", "rows 0, 5, 12"])

    def test_in(self):
        mend = Mend(0, 1, 5)
        for row in (0, 1, 5):
            self.same(row in mend, True)
        for thing in ODD_VALUES + [2, -1, "1", (1,), [5], 10 ** 40, True, False]:
            self.same(thing in mend, False)
        self.same(0 in Mend(), False)

    def test_signs(self):
        one, other = Mend(1, 3), Mend(3, 2)
        self.same([(one | other).rows, (one & other).rows], [(1, 2, 3), (3,)])
        self.same([(one | Mend()).rows, (one & Mend()).rows, (one & Mend(7)).rows], [(1, 3), (), ()])
        self.same([one.rows, other.rows], [(1, 3), (2, 3)])
        self.assertIsNot(one | one, one)
        self.assertIsNot(one & one, one)
        self.same([type(one | other), type(one & other)], [Mend, Mend])

    def test_in_place(self):
        mend, other = Mend(4), Mend(1, 4)
        alias = mend
        mend |= other
        self.assertIs(mend, alias)
        self.same([alias.rows, other.rows, len(alias), str(alias)], [(1, 4), (1, 4), 2, "rows 1, 4"])
        mend |= mend
        self.same(alias.rows, (1, 4))
        other |= Mend(9)
        self.same([alias.rows, other.rows], [(1, 4), (1, 4, 9)])
        one = Mend(1)
        union = one | Mend(2)
        union |= Mend(3)
        self.same([one.rows, union.rows], [(1,), (1, 2, 3)])

    def test_equal(self):
        self.assertTrue(Mend(1, 2) == Mend(2, 1, 1))
        self.assertFalse(Mend(1, 2) != Mend(2, 1))
        self.assertTrue(Mend() == Mend())
        for thing in [Mend(), Mend(1), Mend(1, 2, 3), (1, 2), [1, 2], "rows 1, 2", None]:
            self.same(Mend(1, 2) == thing, False)


class JudgeMendedTest(Case):

    def test_a_good_mend(self):
        verdict = judge_mended(ELDER, USUAL, PLAIN, Mend(0))
        self.assertIs(type(verdict), Same)
        self.assertTrue(verdict.program == ELDER.turned([0]))
        self.same([str(verdict.here), str(verdict.there)], [str(USUAL), str(PLAIN)])
        turned = ELDER.turned([0])
        self.same(is_paper(turned, USUAL, PLAIN, verdict.paper, against=ELDER), True)
        self.same(verdict.told()[2], f"same in {len(Worlds(turned, USUAL, PLAIN, against=ELDER))} worlds")

    def test_mends_that_are_not_good(self):
        for mend in (Mend(), Mend(3), Mend(4), Mend(3, 4)):
            verdict = judge_mended(ELDER, USUAL, PLAIN, mend)
            self.assertIs(type(verdict), Parts)
            self.assertTrue(verdict.program == ELDER.turned(mend.rows))
        self.same(judge_mended(ELDER, USUAL, PLAIN, Mend()).paper, judge(ELDER, USUAL, PLAIN).paper)
        self.same(judge_mended(ELDER, USUAL, PLAIN, Mend(4), goals=goals_of("shown")).told()[-1][:7], "same in")

    def test_errors_and_their_order(self):
        wrong = goals_of("differs a")
        self.fails(NoTurn, {"row": 1}, judge_mended, ELDER, USUAL, PLAIN, Mend(0, 1, 2), goals=wrong, most=1)
        self.fails(NoTurn, {"row": -1}, judge_mended, ELDER, USUAL, PLAIN, Mend(7, -1), goals=wrong, most=1)
        self.fails(NoField, {"field": "a"}, judge_mended, ELDER, USUAL, PLAIN, Mend(0), goals=wrong, most=1)
        self.fails(TooMany, {"what": "worlds"}, judge_mended, ELDER, USUAL, PLAIN, Mend(0), most=1)
        count = len(Worlds(ELDER.turned([0]), USUAL, PLAIN, against=ELDER))
        self.same(len(judge_mended(ELDER, USUAL, PLAIN, Mend(0), most=count)), count)
        self.fails(TooMany, {"what": "worlds"}, judge_mended, ELDER, USUAL, PLAIN, Mend(0), most=count - 1)

    def test_by_name(self):
        verdict = judge_mended(program=ELDER, here=USUAL, there=PLAIN, mend=Mend(0), goals=None, most=3000)
        self.same(bool(verdict), True)
        with self.assertRaises(TypeError):
            judge_mended(ELDER, USUAL, PLAIN, Mend(0), [])


class MendsTest(Case):

    def test_an_example(self):
        mends = Mends(ELDER, USUAL, PLAIN, [4, 0])
        self.same([[str(mend) for mend in mends.least()], [str(mend) for mend in mends.fewest()], len(mends)],
                  [["rows 0"], ["rows 0"], 1])
        self.same([bool(mends.verdict(Mend())), bool(mends.verdict(Mend(0))), bool(mends.verdict(Mend(0, 4)))],
                  [False, True, False])

    def test_several_least_mends(self):
        program = Program(["q = all", "x = q[?]", "others", "show x.a", "len q"], Form.read("a"))
        goals = goals_of("shown")
        # Under the plain book all is of the building's moment; here the rows are asked for late.
        mends = Mends(program, USUAL, PLAIN, program.turnable(), goals=goals)
        self.same([str(mend) for mend in mends.least()], ["rows 0"])
        other = Program(["q = all", "x = q[?]", "x.a = ?", "others", "save x", "x.b = ?", "save x"], Form.read("a b"))
        mends = Mends(other, USUAL, USUAL, [4, 5, 6], goals=goals_of("elder a", "elder b"))
        least = [mend.rows for mend in mends.least()]
        good = [rows for rows in all_rows([4, 5, 6])
                if judge(other.turned(rows), USUAL, USUAL, goals=goals_of("elder a", "elder b"), against=other)]
        self.same([least, len(mends)], [least_of(good), len(good)])

    def test_least_mends_of_unlike_numbers_of_rows(self):
        program = Program(["q = all", "x = q[?]", "others", "x.b = ?", "save x", "save x"], Form.read("a b"))
        goals = goals_of("elder a")
        # A reread before the value is set is enough; otherwise both saves must store no more than what is touched.
        for rows in ([3, 4, 5], (5, 4, 3, 0)):
            mends = Mends(program, USUAL, USUAL, rows, goals=goals)
            self.same([mend.rows for mend in mends.least()], [(3,), (4, 5)])
            self.same([mend.rows for mend in mends.fewest()], [(3,)])
        self.same(len(Mends(program, USUAL, USUAL, [3, 4, 5], goals=goals)), 5)
        self.same([mend.rows for mend in Mends(program, USUAL, USUAL, [4, 5], goals=goals).fewest()], [(4, 5)])

    def test_no_candidates(self):
        mends = Mends(ELDER, USUAL, USUAL, [])
        self.same([[mend.rows for mend in mends.least()], [mend.rows for mend in mends.fewest()], len(mends)],
                  [[()], [()], 1])
        mends = Mends(ELDER, USUAL, PLAIN, ())
        self.same([mends.least(), mends.fewest(), len(mends)], [[], [], 0])
        self.same(bool(mends.verdict(Mend())), False)
        self.fails(NoTurn, {"row": 0}, mends.verdict, Mend(0))

    def test_no_rows(self):
        mends = Mends(Program([], FORM), USUAL, PLAIN, [])
        self.same([[str(mend) for mend in mends.least()], len(mends)], [["no rows"], 1])

    def test_more_rows_are_not_always_good(self):
        mends = Mends(ELDER, USUAL, PLAIN, [0, 3])
        self.same([bool(mends.verdict(Mend(0))), bool(mends.verdict(Mend(0, 3)))], [True, False])

    def test_mends_that_are_returned_are_new(self):
        mends = Mends(ELDER, USUAL, PLAIN, [4, 0])
        for told in (mends.least, mends.fewest):
            mend = told()[0]
            mend |= Mend(4)
            told().clear()
            self.same([one.rows for one in told()], [(0,)])
            self.assertIsNot(told()[0], told()[0])
        given = Mend(0)
        verdict = mends.verdict(given)
        given |= Mend(4)
        self.same([bool(verdict), bool(mends.verdict(given))], [True, False])

    def test_verdicts(self):
        mends = Mends(ELDER, USUAL, PLAIN, [0, 3, 4])
        for rows in all_rows([0, 3, 4]):
            verdict = mends.verdict(Mend(*rows))
            expected = judge_mended(ELDER, USUAL, PLAIN, Mend(*rows), most=500)
            self.same([type(verdict), verdict.paper, verdict.told()],
                      [type(expected), expected.paper, expected.told()])
            self.assertTrue(verdict.program == ELDER.turned(rows))
        self.same(bool(mends.verdict(mend=Mend(0))), True)

    def test_askings(self):
        program = Program(["q = all", "len q", "x = q[?]", "fresh show x.a", "save x"], Form.read("a"))
        mends = Mends(program, FRESH, FRESH, [0, 3])
        for rows in all_rows([0, 3]):
            askings = mends.askings(Mend(*rows))
            self.assertIs(type(askings), Askings)
            expected = Askings(program.turned(rows), FRESH)
            self.same([askings.least(), askings.most(), askings.sources(2)],
                      [expected.least(), expected.most(), expected.sources(2)])
        self.same([mends.askings(Mend()).most(), mends.askings(mend=Mend(0)).most()], [2, 1])

    def test_rows_that_are_no_candidates(self):
        mends = Mends(ELDER, USUAL, PLAIN, [0, 4])
        for told in (mends.verdict, mends.askings):
            self.fails(NoTurn, {"row": 3}, told, Mend(0, 3, 5))
            self.fails(NoTurn, {"row": -1}, told, Mend(3, -1))
            self.fails(NoTurn, {"row": 1}, told, Mend(1))

    def test_candidates_are_copied_and_counted_once(self):
        rows = [4, 0, 4, 4, 0, 0]
        mends = Mends(ELDER, USUAL, PLAIN, rows)
        rows.append(3)
        self.same(len(mends), 1)
        self.fails(NoTurn, {"row": 3}, mends.verdict, Mend(3))
        self.same(rows, [4, 0, 4, 4, 0, 0, 3])

    def test_rows_that_cannot_be_turned(self):
        for row in ODD_VALUES + [1, 2, 5, -1, "0", (0,), [0], 10 ** 40, True, False]:
            self.fails(NoTurn, {"row": row}, Mends, ELDER, USUAL, PLAIN, [0, row, 1])
            self.fails(NoTurn, {"row": row}, Mends, ELDER, USUAL, PLAIN, (4, row), goals=goals_of("elder a"), most=1)

    def test_five_and_six_candidates(self):
        rows = ["q = all", "r = q", "xs = list r", "x = r[?]", "x.a = ?", "show x.a", "fresh x.a += ?", "save x"]
        program = Program(rows, Form.read("a"))
        self.same(program.turnable(), [0, 1, 4, 5, 6, 7])
        mends = Mends(program, USUAL, PLAIN, program.turnable()[:5])
        good = [chosen for chosen in all_rows(program.turnable()[:5])
                if judge(program.turned(chosen), USUAL, PLAIN, against=program)]
        self.same([len(mends), [mend.rows for mend in mends.least()]], [len(good), least_of(good)])
        wrong = goals_of("differs b")
        self.fails(TooMany, {"what": "candidates"}, Mends, program, USUAL, PLAIN, program.turnable(), goals=wrong,
                   most=1)
        self.fails(NoTurn, {"row": 2}, Mends, program, USUAL, PLAIN, [*program.turnable(), 2], goals=wrong, most=1)
        # Each row counts once.
        self.same(len(Mends(program, USUAL, PLAIN, program.turnable()[:5] * 7)), len(good))

    def test_errors_of_the_verdicts(self):
        wrong = goals_of("missing", "elder a")
        self.fails(NoField, {"field": "a"}, Mends, ELDER, USUAL, PLAIN, [0, 4], goals=wrong, most=1)
        self.fails(TooMany, {"what": "worlds"}, Mends, ELDER, USUAL, PLAIN, [0, 4], most=1)
        self.fails(TooMany, {"what": "worlds"}, Mends, ELDER, USUAL, PLAIN, [], most=1)

    def test_too_many_worlds_for_one_of_the_mends(self):
        counts = {rows: len(Worlds(ELDER.turned(rows), USUAL, PLAIN, against=ELDER)) for rows in all_rows([0, 3, 4])}
        most = max(counts.values())
        self.assertTrue(min(counts.values()) < most <= 500)
        self.same(len(Mends(ELDER, USUAL, PLAIN, [0, 3, 4], most=most)), 1)
        self.fails(TooMany, {"what": "worlds"}, Mends, ELDER, USUAL, PLAIN, [0, 3, 4], most=most - 1)

    def test_the_bound_by_default(self):
        program = Program(["q = f", "others", "x = q[?]", "x.a += ?", "others", "save x"], Form.read("a:f,g"))
        self.assertTrue(500 < len(Worlds(program, USUAL, PLAIN)) <= 3000)
        self.fails(TooMany, {"what": "worlds"}, Mends, program, USUAL, PLAIN, [0])

    def test_by_name(self):
        mends = Mends(program=ELDER, here=USUAL, there=PLAIN, rows=[0], goals=None, most=500)
        self.same(len(mends), 1)
        self.assertTrue(mends == mends)
        self.assertFalse(mends == Mends(ELDER, USUAL, PLAIN, [0]))
        with self.assertRaises(TypeError):
            Mends(ELDER, USUAL, PLAIN, [0], [])


class RandomTest(Case):

    def test_least_and_fewest(self):
        found = 0
        for seed in range(120):
            chance, program, here, there, rows = drawn_mend(seed)
            try:
                mends = Mends(program, here, there, rows, most=300)
            except TooMany:
                continue
            good = [chosen for chosen in all_rows(rows) if judge(program.turned(chosen), here, there, against=program)]
            least = least_of(good)
            self.same([[mend.rows for mend in mends.least()], len(mends)], [least, len(good)])
            few = [rows for rows in least if len(rows) == len(least[0])]
            self.same([mend.rows for mend in mends.fewest()], few)
            found += 1 if least and least[0] else 0
        self.assertTrue(found > 5, found)

    def test_mended_programs_show_and_leave_the_same(self):
        checked = 0
        for seed in range(120):
            chance, program, here, there, rows = drawn_mend(seed)
            try:
                least = Mends(program, here, there, rows, most=300).least()
            except TooMany:
                continue
            for mend in [mend for mend in least if mend]:
                checked += 1
                show_and_leave_the_same(self, chance, (program.turned(mend.rows), here), (program, there))
        self.assertTrue(checked > 5, checked)


BEGINS = (["q = all", "others", "x = q[?]"], ["q = all", "x = q[?]", "others"], ["q = all", "len q", "others"])


def drawn_mend(seed):
    """A program, two books, and at most four candidates."""
    chance = random.Random(seed)
    program = random_program(seed, 8, begin=BEGINS[seed % 3])
    rows = sorted(chance.sample(program.turnable(), min(4, len(program.turnable()))))
    books = [random_book(chance), random_book(chance)] if seed % 2 else [USUAL, PLAIN]
    return chance, program, books[0], books[1], rows


def all_rows(candidates):
    """All tuples of some candidates, by ascending number, then ascending."""
    return [rows for count in range(len(candidates) + 1) for rows in itertools.combinations(candidates, count)]


def least_of(good):
    return [rows for rows in good if not [other for other in good if set(other) < set(rows)]]
