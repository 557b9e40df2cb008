from latequestions.errors import NoTurn, TooMany
from latequestions.forms import Form
from latequestions.programs import Program
from support import FORM, ODD_VALUES, Case

ROWS = (
    "q = all", "r = now cheap & ~q", "x = q[?]", "x.price = ?", "fresh x.price = ?", "x.stock += ?",
    "fresh x.stock += ?", "show x.price", "fresh show x.price", "save x", "save x touched", "save x by price",
    "reread x",
    "delete x", "update q.price = ?", "update q.price += ?", "wipe q", "others", "xs = list q", "xs = q[?:?]", "len q",
    "has q[?]", "for w in q", "w.price = ?", "save w", "fresh show w.stock", "end", "repeat", "either", "or", "end",
    "end",
    "quiet", "end",
)
TURNED = {
    0: "q = now all", 1: "r = cheap & ~q", 3: "fresh x.price = ?", 4: "x.price = ?", 5: "fresh x.stock += ?",
    6: "x.stock += ?", 7: "fresh show x.price", 8: "show x.price", 9: "save x touched", 10: "save x",
    23: "fresh w.price = ?", 24: "save w touched", 25: "show w.stock",
}


class TurningTest(Case):

    def setUp(self):
        self.program = Program(ROWS, FORM)

    def test_turnable(self):
        self.same(self.program.turnable(), sorted(TURNED))
        self.same(Program([], FORM).turnable(), [])
        self.program.turnable().clear()
        self.same(self.program.turnable(), sorted(TURNED))

    def test_turned_one_by_one(self):
        for at, text in TURNED.items():
            turned = self.program.turned([at])
            self.same(turned.rows, (*ROWS[:at], text, *ROWS[at + 1:]))
            self.assertEqual(turned.turned((at,)), self.program)
        self.same(self.program.rows, ROWS)

    def test_turned_together(self):
        turned = self.program.turned(rows=tuple(TURNED))
        self.same(turned.rows, tuple(TURNED.get(at, row) for at, row in enumerate(ROWS)))
        self.assertEqual(turned.form, FORM)
        self.assertEqual(self.program.turned([]), self.program)

    def test_each_row_counts_once(self):
        self.assertEqual(self.program.turned([3, 0, 3, 3]), self.program.turned([0, 3]))

    def test_rows_that_cannot_be_turned(self):
        for thing in ODD_VALUES + [2, 11, 12, 14, 17, 18, 22, 26, 27, -1, -len(ROWS), 34, "0", "q = all", [0], (0,)]:
            self.fails(NoTurn, {"row": thing}, self.program.turned, [0, thing, 2])
        self.fails(NoTurn, {"row": 2}, self.program.turned, [0, 2, None])

    def test_the_list_is_not_changed(self):
        rows = [3, 0, 3]
        self.program.turned(rows)
        self.same(rows, [3, 0, 3])


class AlongTest(Case):

    def setUp(self):
        self.program = Program(ROWS, FORM)

    def test_turned_programs_go_along(self):
        for rows in ([], [0], list(TURNED), list(TURNED)[::2], list(TURNED)[1::2]):
            other = self.program.turned(rows)
            self.same([self.program.goes_along(other), other.goes_along(other=self.program)], [True, True])
            self.assertEqual([step.then for step in other.steps], [step.then for step in self.program.steps])

    def test_others_do_not(self):
        rows = ["q = all", "x = q[?]", "save x"]
        program = Program(rows, FORM)
        for at, row in ((0, "q = (all)"), (0, "q = cheap"), (1, "x=q[?]"), (2, "save x by price"), (2, "delete x"),
                        (2, "save x by price, stock"), (2, "reread x")):
            other = Program([*rows[:at], row, *rows[at + 1:]], FORM)
            self.same(program.goes_along(other), row == "x=q[?]")
            self.same(other.goes_along(program), row == "x=q[?]")
        self.same(program.goes_along(Program(rows[:2], FORM)), False)
        self.same(program.goes_along(Program([*rows, "others"], FORM)), False)
        self.same(program.goes_along(Program([], FORM)), False)

    def test_fields_of_saves_stand_in_their_order(self):
        rows = ["q = all", "x = q[?]", "save x by price, stock"]
        other = [*rows[:2], "save x by stock, price"]
        self.same(Program(rows, FORM).goes_along(Program(other, FORM)), False)

    def test_other_forms_do_not(self):
        self.same(Program(["q = all"], Form.read("a")).goes_along(Program(["q = all"], Form.read("b"))), False)
        self.same(Program([], Form.read("a")).goes_along(Program([], Form.read("a:f"))), False)
        self.same(Program([], Form.read("a")).goes_along(Program([], Form.read("a"))), True)


class BusyTest(Case):

    def busy(self, *rows):
        return Program(rows, FORM).busy().rows

    def test_plain_rows(self):
        self.same(self.busy(), ("others",))
        self.same(self.busy("q = all"), ("others", "q = all", "others"))
        self.same(self.busy("q = all", "len q"), ("others", "q = all", "others", "len q", "others"))

    def test_no_second_others(self):
        self.same(self.busy("others"), ("others",))
        self.same(self.busy("others", "others"), ("others", "others"))
        self.same(self.busy("others", "q = all", "others"), ("others", "q = all", "others"))
        self.same(self.busy("q = all", "others", "len q"), ("others", "q = all", "others", "len q", "others"))
        self.same(self.busy("q = all", "len q", "others"), ("others", "q = all", "others", "len q", "others"))

    def test_walks(self):
        self.same(self.busy("q = all", "for w in q", "save w", "end", "len q"), (
            "others", "q = all", "others", "for w in q", "save w", "end", "others", "len q", "others"))
        self.same(self.busy("q = all", "for w in q", "end"), ("others", "q = all", "others", "for w in q", "end",
                                                              "others"))

    def test_quiet(self):
        self.same(self.busy("quiet", "q = all", "repeat", "len q", "end", "end", "others"), (
            "others", "quiet", "q = all", "repeat", "len q", "end", "end", "others"))
        self.same(self.busy("repeat", "quiet", "end", "end"), (
            "others", "repeat", "others", "quiet", "end", "others", "end", "others"))

    def test_repeat_and_either(self):
        self.same(self.busy("repeat", "end"), ("others", "repeat", "others", "end", "others"))
        self.same(self.busy("either", "or", "q = all", "end"), (
            "others", "either", "others", "or", "others", "q = all", "others", "end", "others"))
        self.same(self.busy("either", "others", "or", "others", "end"), (
            "others", "either", "others", "or", "others", "end", "others"))

    def test_too_many(self):
        self.assertEqual(len(Program(["repeat", "end"] * 10, FORM).busy().rows), 41)
        self.fails(TooMany, {"what": "rows"}, Program(["repeat", "end"] * 15, FORM).busy)
        self.fails(TooMany, {"what": "steps"}, Program(["q = all"] + ["len q"] * 19 + ["quiet", "end"], FORM).busy)
        self.assertEqual(len(Program(["q = all"] + ["len q"] * 18, FORM).busy()), 39)

    def test_the_program_stays(self):
        program = Program(["q = all"], FORM)
        program.busy()
        program.calm()
        self.same(program.rows, ("q = all",))
        self.assertEqual(program.busy().form, FORM)


class CalmTest(Case):

    def test_calm(self):
        rows = ["others", "q = all", "others", "others", "repeat", "others", "end", "len q", "others"]
        self.same(Program(rows, FORM).calm().rows, ("q = all", "repeat", "end", "len q"))
        self.same(Program(["others"] * 40, FORM).calm().rows, ())
        self.same(Program(["q = all"], FORM).calm().rows, ("q = all",))
        self.assertEqual(Program(rows, FORM).calm().form, FORM)

    def test_calm_and_busy(self):
        program = Program(["q = all", "for w in q", "save w", "end", "either", "len q", "or", "end"], FORM)
        self.assertEqual(program.busy().calm(), program)
        self.assertEqual(program.busy().busy(), program.busy())
