from latequestions.forms import Form
from latequestions.programs import Program, Step
from support import FORM, Case


def told(step):
    return (step.row, step.kind, step.name, step.source, step.fields, step.way, step.in_walk, step.then)


class StepsTest(Case):

    def steps(self, *rows):
        program = Program(rows, FORM)
        self.assertEqual(len(program.steps), len(program))
        return [told(step) for step in program.steps]

    def flow(self, *rows):
        """What may come next behind each step."""
        return [step.then for step in Program(rows, Form.read("a")).steps]

    def test_buildings_and_looks(self):
        self.same(self.steps(
            "q = all", "r = now cheap", "xs = list q", "x = xs[?]", "ys = r[?:?]", "len q", "truth xs", "count q",
            "any q", "has ys[?]",
        ), [
            (0, "build", "q", "", (), "", False, (1,)),
            (1, "build", "r", "", (), "now", False, (2,)),
            (2, "list", "xs", "q", (), "", False, (3,)),
            (3, "item", "x", "xs", (), "", False, (4,)),
            (4, "part", "ys", "r", (), "", False, (5,)),
            (5, "len", "", "q", (), "", False, (6,)),
            (6, "truth", "", "xs", (), "", False, (7,)),
            (7, "count", "", "q", (), "", False, (8,)),
            (8, "any", "", "q", (), "", False, (9,)),
            (9, "has", "", "ys", (), "", False, (10,)),
        ])

    def test_deeds(self):
        self.same(self.steps(
            "q = all", "x = q[?]", "x.price = ?", "fresh x.stock = ?", "x.stock += ?", "fresh x.price += ?",
            "show x.price", "fresh show x.stock", "save x", "save x touched", "save x by stock, price",
            "save x by price",
            "reread x", "delete x", "update q.price = ?", "update q.stock += ?", "wipe q", "others",
        )[2:], [
            (2, "set", "x", "", ("price",), "", False, (3,)),
            (3, "set", "x", "", ("stock",), "fresh", False, (4,)),
            (4, "add", "x", "", ("stock",), "", False, (5,)),
            (5, "add", "x", "", ("price",), "fresh", False, (6,)),
            (6, "show", "x", "", ("price",), "", False, (7,)),
            (7, "show", "x", "", ("stock",), "fresh", False, (8,)),
            (8, "save", "x", "", ("price", "stock"), "", False, (9,)),
            (9, "save", "x", "", (), "touched", False, (10,)),
            (10, "save", "x", "", ("stock", "price"), "by", False, (11,)),
            (11, "save", "x", "", ("price",), "by", False, (12,)),
            (12, "reread", "x", "", (), "", False, (13,)),
            (13, "delete", "x", "", (), "", False, (14,)),
            (14, "update", "q", "", ("price",), "", False, (15,)),
            (15, "raise", "q", "", ("stock",), "", False, (16,)),
            (16, "wipe", "q", "", (), "", False, (17,)),
            (17, "others", "", "", (), "", False, (18,)),
        ])

    def test_saves_by_three_fields(self):
        steps = Program(["q = all", "x = q[?]", "save x by c, a, b", "save x"], Form.read("a b c")).steps
        self.same(told(steps[2]), (2, "save", "x", "", ("c", "a", "b"), "by", False, (3,)))
        self.same(told(steps[3]), (3, "save", "x", "", ("a", "b", "c"), "", False, (4,)))

    def test_walks(self):
        self.same(self.steps("quiet", "q = all", "for w in q", "save w", "fresh show w.price", "end", "end", "len q"), [
            (1, "build", "q", "", (), "", False, (1,)),
            (2, "walk", "w", "q", (), "", False, (2,)),
            (3, "save", "w", "", ("price", "stock"), "", True, (3,)),
            (4, "show", "w", "", ("price",), "fresh", True, (4,)),
            (5, "leave", "w", "", (), "", False, (5,)),
            (7, "len", "", "q", (), "", False, (6,)),
        ])
        self.same(self.steps("q = all", "for w in q", "end")[1:], [
            (1, "walk", "w", "q", (), "", False, (2,)),
            (2, "leave", "w", "", (), "", False, (3,)),
        ])

    def test_picks(self):
        self.same(self.steps("either", "others", "or", "q = all", "len q", "end", "repeat", "others", "end"), [
            (0, "pick", "", "", (), "", False, (1, 2)),
            (1, "others", "", "", (), "", False, (4,)),
            (3, "build", "q", "", (), "", False, (3,)),
            (4, "len", "", "q", (), "", False, (4,)),
            (6, "pick", "", "", (), "", False, (6, 5)),
            (7, "others", "", "", (), "", False, (4,)),
        ])

    def test_kind_of_steps(self):
        for step in Program(["q = all", "for w in q", "end"], FORM).steps:
            self.assertIs(type(step), Step)
            self.assertTrue(step == step)
        one, other = Program(["others"], FORM).steps[0], Program(["others"], FORM).steps[0]
        self.assertFalse(one == other)

    def test_no_steps(self):
        self.same(self.flow(), [])
        self.same(self.flow("quiet", "quiet", "end", "end"), [])

    def test_empty_branches(self):
        self.same(self.flow("either", "or", "end"), [(1, 1)])
        self.same(self.flow("either", "or", "end", "others"), [(1, 1), (2,)])
        self.same(self.flow("either", "or", "others", "or", "end", "others"), [(2, 1, 2), (2,), (3,)])
        self.same(self.flow("either", "quiet", "end", "or", "others", "end", "others"), [(2, 1), (2,), (3,)])

    def test_empty_repeats(self):
        self.same(self.flow("repeat", "end"), [(1, 0)])
        self.same(self.flow("others", "repeat", "quiet", "end", "end", "others"), [(1,), (2, 1), (3,)])

    def test_blocks_in_blocks(self):
        # A branch at the end of a repeat leads back to the pick.
        self.same(self.flow("repeat", "either", "others", "or", "end", "end", "others"), [(3, 1), (2, 0), (0,), (4,)])
        self.same(self.flow("repeat", "others", "repeat", "others", "end", "end"), [(4, 1), (2,), (0, 3), (2,)])
        self.same(self.flow("repeat", "repeat", "repeat", "end", "end", "end"), [(3, 1), (0, 2), (1, 2)])
        self.same(self.flow("either", "repeat", "others", "end", "or", "others", "end", "others"),
                  [(1, 3), (4, 2), (1,), (4,), (5,)])
        self.same(self.flow("either", "either", "or", "others", "end", "or", "or", "repeat", "end", "end"),
                  [(1, 4, 3), (4, 2), (4,), (4, 3)])
        self.same(self.flow("either", "quiet", "repeat", "end", "end", "or", "end", "others"), [(1, 2), (2, 1), (3,)])

    def test_the_last_step_of_a_branch_that_is_a_walk(self):
        self.same(self.flow("q = all", "repeat", "either", "for w in q", "end", "or", "end", "end"),
                  [(1,), (5, 2), (3, 1), (4,), (1,)])
