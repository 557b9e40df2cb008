from latequestions.errors import BadRow, NoName, TooMany
from latequestions.forms import Condition, Form
from latequestions.programs import Program
from support import FORM, ODD_VALUES, Case

# Behind these rows q is a question, xs a listing and x an object.
BEFORE = ["q = cheap", "xs = list q", "x = q[?]"]

CANONICAL = {
    "r = all": ("r=all", " r  =  all "),
    "r = now all": ("r=now all", "  r = now   all"),
    "r = now (all)": ("r=now(all)", "r = now ( all )"),
    "r = ~~cheap": ("r=~~cheap", "r = ~ ~ cheap"),
    "r = cheap & ~(many | q)": ("r=cheap&~(many|q)", "r = cheap  & ~ ( many | q ) "),
    "r = now cheap & ~(many | q)": ("r=now cheap&~(many|q)",),
    "ys = list q": ("ys=list q", " ys =  list  q"),
    "xs = list xs": ("xs=list xs",),
    "y = q[?]": ("y=q[?]", "y = q [ ? ]"),
    "x = xs[?]": ("x=xs [?]",),
    "ys = q[?:?]": ("ys=q[?:?]", "ys = q [ ? : ? ]"),
    "xs = xs[?:?]": ("xs = xs[? :?]",),
    "len q": (" len  q ",),
    "truth xs": ("truth  xs",),
    "count q": (" count q",),
    "any xs": ("any xs ",),
    "has q[?]": ("has q [ ? ]",),
    "x.price = ?": ("x.price=?", "x . price = ?"),
    "x.price += ?": ("x.price+=?", "x .price += ? "),
    "show x.stock": ("show  x . stock",),
    "fresh x.price = ?": ("fresh x.price=?",),
    "fresh x.price += ?": ("fresh x . price+=?",),
    "fresh show x.stock": (" fresh show x .stock",),
    "save x": (" save  x",),
    "save x touched": ("save x  touched",),
    "save x by price": ("save x by  price",),
    "save x by stock, price": ("save x by stock,price", "save x by stock , price"),
    "reread x": (" reread x",),
    "delete x": ("delete x ",),
    "update q.price = ?": ("update q.price=?",),
    "update q.stock += ?": ("update q . stock+=?",),
    "wipe q": ("wipe  q",),
    "others": (" others ",),
}

WRONG = """
q|x|len|len x|len w|len cheap|len price|len all|len q q|len q[?]|Len q|len q.|has q|has q[?:?]|has x[?]|has q[?
has q?|has [?]|truth|truth x|count x|any x|any|show|any q xs
r|r =|= all|= all +|=+|r = now|r = q[?|r = q]|y = q[]|y = q[??]|y = q[?:]|y = q[:?]|y = q[:]|y = q[?;?]|y = q[? ?]
y = x[?]|y = cheap[?]|ys = x[?:?]|ys = list x|ys = list cheap|ys = list|ys = list all|ys = list q[?]|list q
ys = now list q|r = r|r = xs|r = x|r = s|r = price|r = cheap cheap|r = cheap &|r = | cheap|r = (cheap|r = cheap)
r = cheap + many|r = ()|r = ~|r = now now all|r = list|r := all|r == all|r += all|r = Cheap|r = cheap, many|r = now
r = all.|r = nowall|price = all|cheap = all|all = all|len = all|now = all|cls = all|abcdefghi = all|R = all|r1 = all
r_s = all|r s = all|price = list q|many = q[?]|dear = q[?:?]|list = list q|q, r = all
q = all|q = now cheap|q = q|xs = all|xs = q[?]|x = all|x = list q|x = q[?:?]|q = list q|q = q[?]|q = q[?:?]
x.price|x.price = 1|x.price =|x.price = ? ?|x.price + = ?|x.price + ?|x.price ++= ?|x.price +== ?|x.price -= ?
x.name = ?|x.cheap = ?|x.all = ?|x. = ?|.price = ?|q.price = ?|xs.price += ?|y.price = ?|cheap.price = ?|x price = ?
x..price = ?|x.price.stock = ?|x.price, x.stock = ?|fresh|fresh fresh x.price = ?|show fresh x.price|fresh save x
fresh reread x|fresh update q.price = ?|fresh r = all|fresh len q|fresh q.price = ?|fresh others|x.fresh = ?
show x|show x.price.stock|show q.price|show xs.price|show price|show x.dear|show x.price = ?
save|save q|save xs|save y|save x by|save x by price,|save x by , price|save x by price, price|save x by price stock
save x by cheap|save x touched by price|save x by price touched|save touched|save x fresh|save x price|save x, y
save x by price, stock, price|save x by price, stock, stock, price|save by price
reread|reread q|reread x.price|delete|delete q|delete xs|delete x by price
update|update q|update q.price|update q.price = 1|update xs.price = ?|update x.price = ?|update q.cheap = ?
update q.price + = ?|update q.price ?|update q.price, q.stock = ?|update cheap.price = ?|update r.price += ?
wipe|wipe xs|wipe x|wipe r|wipe q q|wipe cheap|wipe q.price
Others|others others|others x|other|or|or x|repeat x|either x|quiet q|quiet x|or end
for w in x|for w in cheap|for w in w|for w in s|for q in q|for x in q|for xs in q|for in q|for w q|for w in
for price in q|for cheap in q|for in in q|for w in q q|for w in q[?]|for W in q|for w, v in q|for w
"""


def wrong_rows():
    """The rows above. A `|` of a condition has spaces on both sides, one between rows has none."""
    rows = []
    for line in WRONG.strip().split("\n"):
        rows += line.replace(" | ", " \n ").split("|")
    return ["", " "] + [row.replace("\n", "|") for row in rows]


class RowsTest(Case):

    def test_canonical_rows(self):
        for row, others in CANONICAL.items():
            for text in (row, *others):
                self.same(Program(BEFORE + [text], FORM).rows, (*BEFORE, row))

    def test_rows_that_are_wrong(self):
        self.assertTrue(len(wrong_rows()) > 200)
        for row in wrong_rows():
            with self.subTest(row):
                self.fails(BadRow, {"at": 3}, Program, BEFORE + [row, "others"], FORM)

    def test_blocks(self):
        rows = ["q = all", " for  w in q", "save w", " end", "repeat ", "end", "either", " or", "or ", "end", "quiet",
                "end"]
        self.same(Program(rows, FORM).rows, tuple(" ".join(row.split()) for row in rows))

    def test_save_by_three_fields(self):
        form = Form.read("a b c")
        rows = ["q = all", "x = q[?]", "save x by c,a ,b"]
        self.same(Program(rows, form).rows[2], "save x by c, a, b")
        self.fails(BadRow, {"at": 2}, Program, rows[:2] + ["save x by a, b, a"], form)

    def test_things_that_are_no_rows(self):
        for thing in ODD_VALUES + [0, 1]:
            self.fails(BadRow, {"at": 0}, Program, [thing], FORM)
            self.fails(BadRow, {"at": 3}, Program, [*BEFORE, thing, "nothing"], FORM)

    def test_rows_that_are_no_list(self):
        for thing in (None, True, False, 0, 7, "", "q = all", {"q": 1}):
            self.fails(BadRow, {"at": -1}, Program, thing, FORM)

    def test_the_first_wrong_row(self):
        self.fails(BadRow, {"at": 0}, Program, ["len q", "len q", None], FORM)
        self.fails(BadRow, {"at": 1}, Program, ["q = all", "end", "repeat"], FORM)
        self.fails(BadRow, {"at": 1}, Program, ("q = all", 5, "end"), FORM)
        # The `end` that is missing is behind the last row, so it is found last.
        self.fails(BadRow, {"at": 2}, Program, ["repeat", "others", "len q"], FORM)

    def test_spaces_only_between_tokens(self):
        for row in ("sa ve x", "x.pr ice = ?", "x. price + = ?", "oth ers", "savex", "x.price=?=?", "lenq",
                    "forw in q"):
            self.fails(BadRow, {"at": 3}, Program, [*BEFORE, row], FORM)


class BlocksTest(Case):

    def wrong(self, at, *rows):
        self.fails(BadRow, {"at": at}, Program, list(rows), FORM)

    def right(self, *rows):
        self.same(Program(rows, FORM).rows, rows)

    def test_ends(self):
        self.wrong(0, "end")
        self.wrong(2, "repeat", "end", "end")
        self.wrong(1, "repeat")
        self.wrong(1, "quiet")
        self.wrong(1, "either")
        self.wrong(2, "either", "or")
        self.wrong(2, "q = all", "for w in q")
        self.wrong(3, "repeat", "quiet", "end")

    def test_either_without_or(self):
        self.wrong(1, "either", "end")
        self.wrong(2, "either", "others", "end")
        self.wrong(4, "either", "either", "or", "end", "end")
        self.right("either", "or", "end")
        self.right("either", "or", "or", "or", "end")

    def test_or(self):
        self.wrong(0, "or")
        self.wrong(1, "repeat", "or", "end")
        self.wrong(1, "quiet", "or", "end")
        self.wrong(2, "either", "repeat", "or", "end", "or", "end")
        self.wrong(3, "either", "or", "end", "or")
        self.wrong(2, "q = all", "for w in q", "or", "end")
        self.right("either", "repeat", "end", "or", "quiet", "end", "end")

    def test_three_deep(self):
        for inner in (["repeat", "end"], ["either", "or", "end"], ["quiet", "end"], ["for w in q", "end"]):
            self.right("q = all", "repeat", "quiet", *inner, "end", "end")
            self.right("q = all", "either", "or", "either", *inner, "or", *inner, "end", *inner, "end")
            self.wrong(4, "q = all", "repeat", "either", "repeat", *inner, "end", "or", "end", "end")
            self.wrong(4, "q = all", "quiet", "quiet", "quiet", *inner, "end", "end", "end")

    def test_rows_three_deep(self):
        self.right("q = all", "repeat", "repeat", "quiet", "x = q[?]", "x.price = ?", "save x", "len q", "end",
                   "others",
                   "end", "end")
        self.right("q = all", "either", "or", "either", "or", "either", "others", "or", "wipe q", "end", "end", "end")
        self.right("q = all", "repeat", "repeat", "for w in q", "show w.price", "end", "end", "end")

    def test_depth_counts_open_blocks_only(self):
        self.right("repeat", "end", "repeat", "repeat", "end", "repeat", "repeat", "end", "end", "end")

    def test_within_walks_only_deeds(self):
        for row in ("others", "len q", "has q[?]", "r = all", "xs = list q", "y = q[?]", "for v in q", "repeat",
                    "either",
                    "quiet", "or", "update q.price = ?", "update q.price += ?", "wipe q", "xs = q[?:?]"):
            self.wrong(2, "q = all", "for w in q", row, "end")
        for row in ("w.price = ?", "fresh w.stock += ?", "show w.price", "fresh show w.price", "save w", "reread w",
                    "save w touched", "save w by price", "delete w"):
            self.right("q = all", "for w in q", row, "end")

    def test_no_others_within_quiet(self):
        self.wrong(1, "quiet", "others", "end")
        self.wrong(2, "quiet", "repeat", "others", "end", "end")
        self.wrong(4, "quiet", "either", "or", "repeat", "others", "end", "end", "end")
        self.right("repeat", "others", "quiet", "end", "others", "end", "others")


class NamesTest(Case):

    def wrong(self, at, *rows):
        self.fails(BadRow, {"at": at}, Program, list(rows), FORM)

    def right(self, *rows):
        self.same(Program(rows, FORM).rows, rows)

    def test_names_that_are_not_set(self):
        self.wrong(0, "len q", "q = all")
        self.wrong(0, "r = q", "q = all")
        self.wrong(1, "q = all", "save x", "x = q[?]")
        self.wrong(0, "update q.price = ?")

    def test_one_branch_only(self):
        self.wrong(4, "either", "q = all", "or", "end", "len q")
        self.wrong(4, "either", "q = all", "or", "end", "r = q")
        self.wrong(4, "either", "or", "q = all", "end", "wipe q")
        self.wrong(5, "q = all", "either", "or", "x = q[?]", "end", "save x")
        self.wrong(4, "q = all", "either", "xs = list q", "or", "len xs", "end")
        self.wrong(7, "q = all", "either", "xs = list q", "or", "or", "xs = list q", "end", "len xs")

    def test_all_branches(self):
        self.right("q = all", "either", "xs = list q", "or", "xs = q[?:?]", "or", "xs = list q", "end", "len xs")
        self.right("q = all", "either", "xs = list q", "len xs", "or", "xs = list q", "end", "xs = list xs")
        self.right("q = all", "x = q[?]", "either", "x = q[?]", "or", "end", "save x")

    def test_repeat(self):
        self.wrong(4, "q = all", "repeat", "xs = list q", "end", "len xs")
        self.wrong(2, "q = all", "repeat", "len xs", "xs = list q", "end")
        self.wrong(1, "repeat", "r = q", "q = all", "end")
        self.right("q = all", "repeat", "xs = list q", "len xs", "end", "len q")
        self.right("q = all", "xs = list q", "repeat", "len xs", "xs = list xs", "end", "len xs")
        self.wrong(9, "q = all", "either", "repeat", "xs = list q", "end", "or", "xs = list q", "end", "len q",
                   "len xs")

    def test_quiet(self):
        self.right("quiet", "q = all", "x = q[?]", "end", "save x", "len q")

    def test_walkers(self):
        self.right("q = all", "for w in q", "save w", "end", "for w in q", "delete w", "end", "for v in q", "end")
        self.wrong(3, "q = all", "for w in q", "end", "save w")
        self.wrong(3, "q = all", "for w in q", "end", "len w")
        self.wrong(3, "q = all", "for w in q", "end", "for v in w", "end")
        self.wrong(3, "q = all", "x = q[?]", "for w in q", "save x", "end")
        self.wrong(4, "q = all", "for v in q", "end", "for w in q", "save v", "end")
        self.wrong(2, "q = all", "for w in q", "save q", "end")

    def test_one_kind(self):
        self.wrong(3, "q = all", "for w in q", "end", "w = list q")
        self.wrong(3, "q = all", "for w in q", "end", "w = q[?]")
        self.wrong(3, "q = all", "for w in q", "end", "w = all")
        self.wrong(2, "q = all", "xs = list q", "for xs in q", "end")
        # The row above binds the name, also on another branch.
        self.wrong(4, "q = all", "either", "y = q[?]", "or", "y = list q", "end")
        self.right("q = all", "xs = list q", "xs = q[?:?]", "x = q[?]", "x = xs[?]")

    def test_a_question_is_built_by_one_row(self):
        self.wrong(1, "q = all", "q = all")
        self.wrong(3, "either", "q = all", "or", "q = all", "end")
        self.right("repeat", "q = all", "len q", "end")
        self.wrong(0, "q = q")
        self.wrong(1, "repeat", "q = ~q", "end")

    def test_six_names(self):
        six = ["a = all", "b = a", "c = list a", "d = a[?]", "for e in a", "end", "f = a[?:?]"]
        self.right(*six)
        self.right(*six, "c = a[?:?]", "d = b[?]", "for e in b", "end", "f = list c", "save d", "len b")
        for row in ("g = all", "g = list a", "g = a[?]", "g = a[?:?]", "for g in a"):
            self.wrong(7, *six, row, "end")

    def test_fields_and_filters_are_no_names(self):
        for name in ("price", "stock", "cheap", "dear", "many"):
            self.wrong(0, f"{name} = all")
            self.wrong(1, "q = all", f"for {name} in q", "end")
            self.assertEqual(Program([f"{name} = all"], Form.read("a")).names(), (name,))


class BoundsTest(Case):

    def test_sixty_rows(self):
        self.assertEqual(len(Program(["repeat", "end"] * 30, FORM).rows), 60)
        self.fails(TooMany, {"what": "rows"}, Program, ["repeat", "end"] * 30 + ["others"], FORM)
        self.fails(TooMany, {"what": "rows"}, Program, [None] * 61, FORM)
        self.fails(BadRow, {"at": 0}, Program, [None] * 60, FORM)
        self.fails(TooMany, {"what": "rows"}, Program, tuple(["others"] * 1000), FORM)

    def test_forty_steps(self):
        self.assertEqual(len(Program(["others"] * 40, FORM)), 40)
        self.fails(TooMany, {"what": "steps"}, Program, ["others"] * 41, FORM)
        self.fails(TooMany, {"what": "steps"}, Program, ["others"] * 60, FORM)
        self.assertEqual(len(Program(["others"] * 40 + ["quiet", "end"] * 10, FORM)), 40)

    def test_a_wrong_row_before_too_many_steps(self):
        self.fails(BadRow, {"at": 45}, Program, ["others"] * 45 + ["len q"], FORM)
        self.fails(BadRow, {"at": 46}, Program, ["others"] * 45 + ["repeat"], FORM)

    def test_sixty_tokens(self):
        sixty = "~all" + " & all" * 29
        for head in ("q = ", "q = now "):
            self.same(Program([head + sixty], FORM).rows, (head + sixty,))
            self.fails(BadRow, {"at": 0}, Program, [head + "~" + sixty], FORM)
            self.fails(BadRow, {"at": 1}, Program, ["others", head + sixty + " )"], FORM)

    def test_eight_levels(self):
        for text in ("~" * 8 + "all", "(" * 8 + "all" + ")" * 8, "~(~(~(~(all))))"):
            self.same(Program([f"q = {text}"], FORM).rows, (f"q = {text}",))
            self.fails(BadRow, {"at": 0}, Program, [f"q = ~{text}"], FORM)
            self.fails(BadRow, {"at": 0}, Program, [f"q = now ({text})"], FORM)

    def test_long_names(self):
        self.same(Program(["abcdefgh = all"], FORM).names(), ("abcdefgh",))


class ProgramTest(Case):

    def setUp(self):
        rows = ["q = cheap", "r=now ~q", "xs = list r", "x = xs[?]", "for w in q", "save w", "end"]
        self.program = Program(rows, FORM)

    def test_names(self):
        self.same(self.program.names(), ("q", "r", "w", "x", "xs"))
        self.same(self.program.names(None), ("q", "r", "w", "x", "xs"))
        self.same(self.program.names("question"), ("q", "r"))
        self.same(self.program.names(kind="listing"), ("xs",))
        self.same(self.program.names("object"), ("x",))
        self.same(self.program.names("walker"), ("w",))
        self.same(Program([], FORM).names(), ())
        self.same(Program(["q = all"], FORM).names("listing"), ())

    def test_conditions(self):
        self.assertEqual(self.program.condition_of("q"), Condition.read("cheap", FORM))
        self.assertEqual(self.program.condition_of(name="r"), Condition.read("~cheap", FORM))

    def test_conditions_of_questions_in_questions(self):
        program = Program(["q = cheap | dear", "r = ~q & many", "s = (r | q) & ~cheap"], FORM)
        self.assertEqual(program.condition_of("s"), Condition.read("dear & ~cheap | ~cheap & ~dear & many", FORM))

    def test_conditions_of_other_names(self):
        for name in ODD_VALUES + ["x", "xs", "w", "cheap", "all", "", "s", 0, 1, ["q"], ("q",)]:
            self.fails(NoName, {"name": name}, self.program.condition_of, name)

    def test_attributes(self):
        self.assertEqual(self.program.form, FORM)
        self.same(self.program.rows[1], "r = now ~q")
        self.assertIs(type(self.program.steps), tuple)
        self.assertEqual(len(self.program), 7)
        self.assertEqual(str(self.program), "q = cheap\nr = now ~q\nxs = list r\nx = xs[?]\nfor w in q\nsave w\nend")

    def test_empty(self):
        program = Program([], FORM)
        self.same([program.rows, program.steps, len(program), str(program)], [(), (), 0, ""])
        self.assertEqual(program, Program((), FORM))
        self.same(len(Program(["quiet", "end"], FORM)), 0)

    def test_of(self):
        self.assertEqual(Program.of(FORM, "q=all", "len q"), Program(rows=["q = all", "len q"], form=FORM))
        self.assertEqual(Program.of(FORM), Program([], FORM))
        self.fails(BadRow, {"at": 1}, Program.of, FORM, "q = all", 5)
        self.fails(TooMany, {"what": "rows"}, Program.of, FORM, *["others"] * 61)

    def test_equal(self):
        one = Program(["q = all"], Form.read("a"))
        self.assertTrue(one == Program([" q=all"], Form.read("a")))
        self.assertFalse(one != Program([" q=all"], Form.read("a")))
        for other in (Program(["q = all"], Form.read("b")), Program(["q = now all"], Form.read("a")),
                      Program(["q = (all)"], Form.read("a")), Program([], Form.read("a")), "q = all", None,
                      ["q = all"]):
            self.assertFalse(one == other)
            self.assertTrue(one != other)

    def test_lists_that_are_changed_later(self):
        rows = ["q = all", "len q"]
        program = Program(rows, FORM)
        rows[0] = "others"
        rows.pop()
        self.same(program.rows, ("q = all", "len q"))
        self.assertEqual(len(program), 2)
