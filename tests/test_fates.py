"""Fates: the least numbers of labels to each kind of goals (point 27)."""

from latequestions.books import Book
from latequestions.errors import BadGoal, NoField, NotAlong, TooMany
from latequestions.fates import Fates, table_line
from latequestions.forms import Form
from latequestions.goals import Goal
from latequestions.judging import judge
from latequestions.programs import Program
from latequestions.worlds import Worlds
from support import ODD_VALUES, Case
from test_judging import ELDER, brute_fate
from test_table_runs import random_table

USUAL, PLAIN = Book.usual(), Book.plain()


class FateTest(Case):

    def test_fates(self):
        fates = Fates(ELDER, USUAL, PLAIN)
        self.same([fates.fate("differs", "price"), fates.fate("differs", "stock"), fates.fate("missing")], [6, 6, 6])
        self.same([fates.fate("unsaved", "stock"), fates.fate("unsaved", "price")], [4, None])
        self.same([fates.fate(kind) for kind in ("extra", "twice", "shown", "gone", "returns")], [None] * 5)
        self.same(fates.fate(kind="elder", field="price"), None)
        self.same(fates.fate("twice", ""), None)
        fates = Fates(ELDER, PLAIN, USUAL)
        self.same([fates.fate("elder", "price"), fates.fate("elder", "stock"), fates.fate("crossed", "stock"),
                   fates.fate("returns"), fates.fate("extra")], [6, None, 6, 6, 6])

    def test_end_does_not_count(self):
        program = Program(["q = all", "x = q[?]", "y = q[?]", "count q", "count q"], Form.read("a"))
        self.same(Fates(program, USUAL, USUAL).fate("twice"), 3)
        self.same(len(judge(program, USUAL, USUAL, goals=[Goal("twice", at_end=True)])), 5)

    def test_random_programs(self):
        for seed in range(50):
            made = random_table(seed, 9, 250, begin=["q = all", "x = q[?]"] if seed % 2 else [])
            if made is None:
                continue
            table, program, against, here, there = made
            fates = Fates(program, here, there, against=against)
            for kind in Goal.STATES + Goal.MOVES:
                for field in program.form.fields if kind in Goal.FIELDED else [""]:
                    self.same([seed, kind, field, fates.fate(kind, field)],
                              [seed, kind, field, brute_fate(table, Goal(kind, field))])

    def test_kinds_that_are_none(self):
        fates = Fates(ELDER, USUAL, PLAIN)
        for kind in ODD_VALUES + [0, "", "differ", "end", "differs price", "missing end", "Missing", "price",
                                  ["missing"], ("missing",)]:
            for field in ("", "price", None):
                self.fails(BadGoal, {"goal": kind}, fates.fate, kind, field)

    def test_fields_that_are_none(self):
        fates = Fates(ELDER, USUAL, PLAIN)
        for kind in Goal.FIELDED:
            for field in ODD_VALUES + ["", "a", "cheap", 0, "price ", ["price"], ("price",)]:
                self.fails(NoField, {"field": field}, fates.fate, kind, field)
            self.fails(NoField, {"field": ""}, fates.fate, kind)
        for kind in ("missing", "extra", "twice", "shown", "gone", "returns"):
            for field in ODD_VALUES + ["price", "a", 0, " "]:
                self.fails(NoField, {"field": field}, fates.fate, kind, field)

    def test_errors_as_worlds(self):
        count = len(Worlds(ELDER, USUAL, PLAIN))
        self.same(Fates(ELDER, USUAL, PLAIN, most=count).fate("missing"), 6)
        self.fails(TooMany, {"what": "worlds"}, Fates, ELDER, USUAL, PLAIN, most=count - 1)
        other = Program(["q = all"], ELDER.form)
        self.fails(NotAlong, {}, Fates, ELDER, USUAL, PLAIN, against=other, most=1)
        fates = Fates(program=ELDER, here=USUAL, there=USUAL, against=ELDER.turned([4]), most=3000)
        self.same(fates.fate("differs", "price"), None)
        with self.assertRaises(TypeError):
            Fates(ELDER, USUAL, PLAIN, ELDER)

    def test_equal_to_itself_only(self):
        fates = Fates(ELDER, USUAL, PLAIN)
        self.assertTrue(fates == fates)
        self.assertFalse(fates == Fates(ELDER, USUAL, PLAIN))


class TextTest(Case):

    def test_text(self):
        self.same(Fates(ELDER, USUAL, PLAIN).text().split("\n"), [
            "field     differs unsaved   elder crossed dropped",
            "price           6       -       -       -       -",
            "stock           6       4       -       -       -",
            "row       missing   extra   twice   shown    gone returns",
            "fate            6       -       -       -       -       -",
        ])

    def test_long_names_and_one_field(self):
        program = Program(["q = all", "x = q[?]", "x.abcdefgh = ?", "x = q[?]"], Form.read("abcdefgh"))
        self.same(Fates(program, USUAL, PLAIN).text().split("\n"), [
            "field     differs unsaved   elder crossed dropped",
            "abcdefgh        -       3       -       -       4",
            "row       missing   extra   twice   shown    gone returns",
            "fate            -       -       -       -       -       -",
        ])

    def test_columns_that_are_too_narrow(self):
        self.same(table_line("abcdefghij", ["12345678", "-", "1234567"]), "abcdefghij 12345678       - 1234567")
        self.same(table_line("abcdefghi", []), "abcdefghi")

    def test_two_digits(self):
        program = Program(["q = all", *["count q"] * 9, "x = q[?]", "y = q[?]"], Form.read("c b a"))
        self.same(Fates(program, USUAL, PLAIN).text().split("\n"), [
            "field     differs unsaved   elder crossed dropped",
            "a               -       -       -       -       -",
            "b               -       -       -       -       -",
            "c               -       -       -       -       -",
            "row       missing   extra   twice   shown    gone returns",
            "fate            -       -      12       -       -       -",
        ])

    def test_a_program_without_rows(self):
        lines = Fates(Program([], Form.read("a")), USUAL, PLAIN).text().split("\n")
        self.same(lines[1], "a               -       -       -       -       -")
        self.same([len(line) for line in lines], [49, 49, 57, 57])
