"""Two programs side by side: marks, partings, pairs, papers (points 30 and 31)."""

from latequestions.books import Book
from latequestions.errors import NoWorld, OtherForm, TooMany
from latequestions.forms import Form
from latequestions.pairs import Comparison, compare, is_comparison
from latequestions.programs import Program
from latequestions.realising import Real
from support import ODD_VALUES, Case
from test_worlds import replaced

USUAL, PLAIN, FRESH = Book.usual(), Book.plain(), Book.fresh()


class PairsCase(Case):

    def compared(self, text, one, other, here=USUAL, there=USUAL, **named):
        form = Form.read(text)
        self.one, self.other = Program(one, form), Program(other, form)
        self.here, self.there = here, there
        self.told = compare(self.one, here, self.other, there, **named)
        return self.told

    def parts(self, text, one, other, how, count, **books):
        """The programs part so, behind so many labels."""
        told = self.compared(text, one, other, **books)
        self.same([told.paper[0], told.paper[3], len(told.paper[2]), len(told), bool(told)],
                  ["part", how, count, count, False])
        pair = self.behind(told.paper[1], *told.paper[2])
        self.same([told.parted(pair), told.followers(pair)], [how, []])
        self.same(self.is_paper(told.paper), True)

    def alike(self, text, one, other, **books):
        told = self.compared(text, one, other, **books)
        self.same([told.paper[0], bool(told), told.realised()], ["alike", True, None])
        self.same([len(told), len(set(told.paper[1]))], [len(told.paper[1])] * 2)
        self.same(self.is_paper(told.paper), True)

    def is_paper(self, thing, **named):
        return is_comparison(self.one, self.here, self.other, self.there, thing, **named)

    def behind(self, start, *labels):
        pair = dict(self.told.beginnings())[start]
        for label in labels:
            pair = dict(self.told.followers(pair))[label]
        return pair

    def labels(self, start, *labels):
        return [label for label, pair in self.told.followers(self.behind(start, *labels))]


class RhythmTest(PairsCase):

    def test_marks(self):
        """Programs with one marked step each: they part at once exactly if the marks are unlike."""
        before = ["q = all", "x = q[?]"]
        rows = {
            "pick 2": [["repeat", "end"], ["either", "or", "end"], ["either", "x.a = ?", "or", "end"]],
            "pick 3": [["either", "or", "or", "end"]],
            "key": [["y = q[?]"], ["x = q[?]"]],
            "has": [["has q[?]"]],
            "cut": [["xs = q[?:?]"], ["ys = q[?:?]"]],
            "value": [["x.a = ?"], ["x.b += ?"], ["update q.a = ?"], ["update q.b += ?"], ["fresh x.a = ?"],
                      ["for w in q", "w.a = ?", "end"]],
            "others": [["others"]],
            "number": [["len q"], ["count q"]],
            "truth": [["truth q"], ["any q"]],
            "show a": [["show x.a"], ["fresh show x.a"]],
            "show b": [["show x.b"]],
            "shows a": [["for w in q", "show w.a", "end"]],
            "shows b": [["for w in q", "fresh show w.b", "end"]],
            "end": [[], ["zs = list q"], ["save x"], ["save x touched"], ["reread x"], ["for w in q", "end"],
                    ["r = now q"], ["quiet", "end"], ["quiet", "r = all", "end"], ["save x by b, a"]],
        }
        for mark in rows:
            for other_mark in rows:
                for one in rows[mark]:
                    for other in rows[other_mark]:
                        told = self.compared("a b", before + one, before + other)
                        hows = [told.parted(pair) for start, first in told.beginnings()
                                for label, pair in told.followers(first)]
                        self.same([one, other, "rhythm" in hows], [one, other, mark != other_mark])

    def test_delete_and_wipe_are_silent(self):
        self.alike("a", ["q = all", "x = q[?]", "delete x"], ["q = all", "x = q[?]", "delete x", "reread x"])
        self.alike("a", ["q = all", "wipe q"], ["q = all", "wipe q", "wipe q"])
        self.parts("a", ["q = all", "wipe q", "others"], ["q = all", "wipe q"], "rhythm", 0)

    def test_rhythm_comes_before_all_else(self):
        self.parts("a", ["q = all", "wipe q"], ["q = all", "len q"], "rhythm", 0)
        self.parts("a", ["q = all", "others", "others"], ["q = all", "others"], "rhythm", 1)

    def test_programs_without_rows(self):
        self.alike("a:f b", [], [])
        self.same([len(self.told), self.told.beginnings()[0]],
                  [3, ((), (0, 0, ((), (), ()), ((), (), ()), ((), ())))])
        self.alike("a", [], ["q = all", "xs = list q"], there=PLAIN)
        self.same(self.told.beginnings()[1],
                  ((0,), (0, 2, ((0,), (), ()), ((0,), (("q", 0), ("xs", 0)), (((0, 0),),)), ((0,),))))

    def test_empty_blocks(self):
        self.alike("a", ["repeat", "end", "either", "or", "end"],
                   ["repeat", "quiet", "end", "end", "either", "or", "end"])
        self.parts("a", ["repeat", "end"], ["either", "or", "end"], "rhythm", 1)
        self.same(self.labels(()), [(0,), (1,)])
        self.same([self.told.parted(self.behind((), (0,))), self.told.parted(self.behind((), (1,)))], ["", "rhythm"])


class ShownTest(PairsCase):

    def test_numbers_and_truths(self):
        for one, other in (("len", "count"), ("count", "count"), ("truth", "any"), ("any", "truth"), ("len", "len")):
            self.alike("a:f", ["q = f", f"{one} q"], ["q = f", f"{other} q"])
            self.parts("a:f", ["q = f", f"{one} q"], ["q = all", f"{other} q"], "shown", 0)
            self.same(self.told.paper[1], (0,))
            self.parts("a:f", ["q = f", "others", f"{one} q"], ["q = now f", "others", f"{other} q"], "shown", 2)

    def test_has_parts_whatever_key_is_chosen(self):
        self.parts("a:f", ["q = f", "has q[?]"], ["q = all", "has q[?]"], "shown", 0)
        pair = self.behind((0,))
        self.same([self.told.parted(pair), self.told.followers(pair)], ["shown", []])
        self.same([self.told.parted(self.behind((1,))), self.labels((1,))], ["", [(0,), (1,)]])
        real = self.told.realised()
        self.same([real.outside.choices, [told[0] for told in real.played()]], [(1,), [[False], [True]]])

    def test_a_last_has_behind_another_choice(self):
        rows = ["q = all", "x = q[?]", "others", "has q[?]", "show x.a"]
        self.parts("a", rows, ["q = now all", *rows[1:]], "shown", 3)
        real = self.told.realised()
        self.same([len(real.outside.choices), real.outside.choices[-1]], [2, 1])
        one, other = real.played()
        self.assertNotEqual(one[0][0], other[0][0])

    def test_shows(self):
        self.alike("a b", ["q = all", "x = q[?]", "show x.a"], ["q = all", "y = q[?]", "fresh show y.a"])
        rows = ["q = all", "x = q[?]", "others"]
        self.parts("a", [*rows, "show x.a"], [*rows, "fresh show x.a"], "shown", 3)
        self.same(self.told.paper[1], (0,))
        self.parts("a:f", ["q = f", "for w in q", "show w.a", "end"], ["q = all", "for w in q", "show w.a", "end"],
                   "shown", 0)
        self.alike("a:f", ["q = f", "for w in q", "show w.a", "end"], ["q = f", "for v in q", "show v.a", "end"])

    def test_fresh_parts_behind_the_reread(self):
        one = ["q = all", "others", "x = q[?]", "fresh show x.a"]
        self.parts("a", one, ["q = now all", *one[1:]], "shown", 3)
        # A value that others write is shown by both; without the row only the elder object shows what it holds.
        self.same(self.told.parted(self.behind((0,), ("write", "a", 0), ("go",), (1,))), "")
        self.same(self.told.parted(self.behind((0,), ("remove",), ("go",), (1,))), "shown")

    def test_values_that_are_not_the_row_s(self):
        rows = ["q = all", "x = q[?]", "x = q[?]", "show x.a"]
        self.alike("a", rows, ["q = all", "y = q[?]", *rows[2:]])


class EndTest(PairsCase):

    def test_rows_that_are_there_or_not(self):
        self.parts("a:f", ["q = f", "wipe q"], ["q = all", "wipe q"], "end", 0)
        self.same(self.told.paper, ("part", (0,), (), "end"))
        one, other = self.told.realised().played()
        self.same([len(one[2]), len(other[2])], [1, 0])

    def test_values(self):
        rows = ["q = all", "x = q[?]", "x.a = ?", "save x"]
        self.parts("a", rows, rows[:-1], "end", 2)
        self.parts("a b", rows, ["q = all", "x = q[?]", "x.b = ?", "save x"], "end", 2)
        self.alike("a b", rows, ["q = all", "x = q[?]", "x.a = ?", "save x by a"])
        self.alike("a b", rows, ["q = all", "x = q[?]", "x.a = ?", "save x touched", "save x"])
        self.parts("a b", ["q = all", "x = q[?]", "others", "x.a = ?", "save x"],
                   ["q = all", "x = q[?]", "others", "x.a = ?", "save x by a"], "end", 4)

    def test_what_is_not_in_the_store_does_not_count(self):
        self.alike("a", ["q = all", "x = q[?]", "x.a = ?"], ["q = all", "x = q[?]", "x.a += ?"])


class ValuesTest(PairsCase):

    def test_equal_values(self):
        one = ["q = all", "x = q[?]", "x.a = ?", "save x"]
        for row in (["x.a = ?", "save x"], ["fresh x.a = ?", "save x"]):
            self.alike("a", one, ["q = all", "x = q[?]", *row])
        self.alike("a", ["q = all", "update q.a = ?"], ["q = all", "for w in q", "w.a = ?", "save w", "end"])
        self.alike("a", ["q = all", "update q.a += ?"], ["q = all", "for w in q", "w.a += ?", "save w", "end"])
        self.parts("a", ["q = all", "update q.a += ?"], ["q = all", "update q.a = ?"], "end", 1)

    def test_labels(self):
        text = "a:f b:g,h"
        begin = ["q = all", "x = q[?]"]
        self.compared(text, [*begin, "x.a = ?"], [*begin, "x.a = ?"])
        self.same(self.labels((0, 0), (1,)), [(0,), (1,)])
        self.same(self.labels((0, 0), (0,)), [()])
        self.compared(text, [*begin, "x.a = ?"], [*begin, "x.b = ?"])
        self.same(self.labels((0, 0), (1,)), [(m, n) for m in (0, 1) for n in range(4)])
        self.compared(text, [*begin, "x.b += ?"], [*begin, "x.a += ?"])
        self.same(self.labels((0, 0), (1,)), [(m, n) for m in range(4) for n in (0, 1)])
        self.compared(text, [*begin, "x.a += ?"], [*begin, "x.a = ?"])
        self.same(self.labels((0, 0), (1,)), [(0, 0), (0, 1), (1, 0), (1, 1)])
        self.compared(text, [*begin, "x.a += ?"], [*begin, "fresh x.a += ?"])
        self.same(self.labels((0, 0), (1,)), [(0,), (1,)])
        self.compared(text, [*begin, "x.a += ?"], [*begin, "update q.a += ?"])
        self.same(self.labels((0, 0), (1,)), [(0,), (1,)])
        self.same(self.labels((0, 0), (0,)), [(0,), (1,)])
        self.same(self.labels((), (1,)), [()])

    def test_sums_to_unlike_values(self):
        begin = ["q = all", "x = q[?]", "others"]
        self.compared("a:f", [*begin, "x.a += ?"], [*begin, "fresh x.a += ?"])
        behind = [(1,), ("write", "a", 1), ("go",)]
        self.same(self.labels((0,), *behind), [(0, 0), (0, 1), (1, 0), (1, 1)])
        pair = self.behind((0,), *behind, (1, 0))
        self.same(pair, (4, 4, ((0,), (("q", "unasked"), ("x", 0)), (((1, 2),),)),
                         ((0,), (("q", "unasked"), ("x", 0)), (((3, 0),),)), ((1, 1, 0, 0),)))

    def test_values_of_two_fields(self):
        self.compared("a:f b:g", ["q = all", "update q.a = ?"], ["q = all", "update q.b = ?"])
        holds = (("q", "unasked"),)
        self.same(self.behind((0, 1), (1, 0)), (2, 2, ((0, 0), holds, ()), ((1, 1), holds, ()), ((1, 0), (1, 0))))
        self.same(self.told.paper[3], "end")


class PairsTest(PairsCase):

    def test_first_pairs(self):
        self.compared("a:f", ["q = f", "xs = list q", "len xs"], ["r = all", "count r"], there=PLAIN)
        first = self.told.beginnings()
        self.same([start for start, pair in first], [(), (0,), (1,)])
        self.same(first[2][1], (2, 1, ((0,), (("q", 0), ("xs", 0)), (((0, 0),),)),
                                ((0,), (("r", 0),), (((0, 0),),)), ((1,),)))
        self.same(first[0][1], (2, 1, ((), (("q", "out"), ("xs", "out")), ()), ((), (("r", "out"),), ()), ((),)))
        self.told.beginnings().clear()
        self.same(len(self.told.beginnings()), 3)

    def test_two_starts_with_one_first_pair(self):
        self.alike("a", ["q = all", "wipe q", "others"], ["q = all", "wipe q", "others"])
        first = self.told.beginnings()
        self.same([start for start, pair in first], [(), (0,)])
        self.same(first[0][1], first[1][1])
        self.same(len(set(self.told.paper[1])), len(self.told))
        rows = ["wipe q", "others", "len q"]
        self.parts("a", ["q = all", *rows], ["q = now all", *rows], "shown", 1)
        self.same(self.told.paper, ("part", (0,), (("go",),), "shown"))
        self.parts("a", ["q = all", "wipe q", "others", "len q"], ["q = all", "wipe q", "others"], "rhythm", 1)
        for start in ((), (0,)):
            self.same(self.is_paper(("part", start, (("go",),), "rhythm")), True)

    def test_others(self):
        self.compared("a:f b", ["q = f", "others"], ["others"])
        self.same(self.labels(()), [("go",), ("put", 0, 0), ("put", 1, 0)])
        self.same(self.labels((1, 0)), [("go",), ("put", 0, 0), ("put", 1, 0), ("remove",), ("write", "a", 0),
                                        ("write", "a", 1), ("write", "b", 0)])
        pair = self.behind((1, 0), ("remove",))
        self.same(pair, (1, 0, ((), (("q", "unasked"),), ()), ((), (), ()), ((), ())))
        self.same(self.behind((1, 0), ("write", "b", 0)), self.behind((1, 0)))
        self.same(self.behind((1, 0), ("go",))[:2], (2, 1))

    def test_others_where_one_store_has_the_row(self):
        self.compared("a", ["q = all", "wipe q", "others"], ["others"])
        self.same(self.labels((0,)), [("go",), ("put", 0), ("remove",), ("write", "a", 0)])
        self.same(self.behind((0,), ("write", "a", 0))[2:4], (((), (("q", "unasked"),), ()), ((0,), (), ())))
        self.same(self.told.parted(self.behind((0,), ("go",))), "end")
        self.same(self.told.parted(self.behind((0,), ("put", 0), ("go",))), "")

    def test_choices_and_cuts(self):
        self.compared("a", ["q = all", "x = q[?]", "xs = q[?:?]"], ["q = all", "y = q[?]", "zs = q[?:?]"])
        self.same([self.labels((0,)), self.labels((0,), (1,))], [[(0,), (1,)]] * 2)
        self.same(self.behind((0,), (0,))[2][1], (("q", "unasked"), ("x", "other")))
        self.same(self.behind((0,), (1,))[3][1], (("q", "unasked"), ("y", 0)))
        self.same(self.behind((0,), (1,), (0,))[3][1], (("q", "unasked"), ("y", 0), ("zs", "out")))

    def test_silent_steps_see_the_new_values(self):
        self.compared("a:f", ["q = f", "update q.a = ?", "r = now f", "len r"], ["q = f", "update q.a = ?", "count q"])
        self.same(self.labels((1,)), [(0,), (1,)])
        self.same([self.behind((1,), (mask,))[2][1] for mask in (0, 1)],
                  [(("q", "unasked"), ("r", "out")), (("q", "unasked"), ("r", 0))])
        self.same(bool(self.told), True)

    def test_rows_done_twice(self):
        one = ["q = all", "x = q[?]", "x.a = ?", "save x"]
        self.alike("a", one, [*one, "save x", "save x", "reread x"])
        self.alike("a:f", ["q = f", "xs = list q", "len xs"], ["q = f", "xs = list q", "xs = list xs", "len xs"])

    def test_things_that_are_no_pairs(self):
        self.compared("a:f", ["q = f", "others", "len q"], ["q = f", "others", "count q"], there=PLAIN)
        pair = self.behind((1,))
        self.same(self.told.parted(pair), "")
        things = ODD_VALUES + [
            0, "", list(pair), pair[1:], (*pair, 0), (True, *pair[1:]), (pair[0], True, *pair[2:]), (9, *pair[1:]),
            replaced(pair, "q", "r"), replaced(pair, "unasked", "out"), replaced(pair, (0, 0), [0, 0]),
            replaced(pair, ((1,),), ((0,),)), replaced(pair, ((1,),), ((True,),)), (pair,), [pair],
            replaced(pair, (0, 0), (0, 0, 0)), replaced(pair, (0, 0), (((((((0,),),),),),), 0)),
        ]
        for thing in things:
            self.fails(NoWorld, {"world": thing}, self.told.followers, thing)
            self.fails(NoWorld, {"world": thing}, self.told.parted, thing)
        self.same([self.told.parted(pair=pair), len(self.told.followers(pair=pair))], ["", 6])
        self.told.followers(pair).clear()
        self.same(len(self.told.followers(pair)), 6)

    def test_a_pair_that_is_over(self):
        self.compared("a", ["q = all"], ["q = all"])
        pair = self.behind((0,))
        self.same([self.told.followers(pair), self.told.parted(pair)], [[], ""])


class PapersTest(PairsCase):

    def test_alike(self):
        rows = ["q = f", "others", "len q"]
        self.alike("a:f", rows, ["q = f", "others", "count q"])
        pairs = self.told.paper[1]
        self.same(self.is_paper(("alike", pairs[::-1])), True)
        self.same(self.is_paper(("alike", pairs + pairs[2:5])), True)
        for at in range(len(pairs)):
            self.same(self.is_paper(("alike", pairs[:at] + pairs[at + 1:])), False)
            self.same(self.is_paper(("alike", pairs[:at] + pairs[at + 1:] + pairs[at - 1:at])), False)
        pair = pairs[-1]
        for thing in (list(pair), replaced(pair, 0, False), pair[1:], None, (9, *pair[1:]), (True, *pair[1:]), [], ()):
            self.same(self.is_paper(("alike", (*pairs, thing))), False)
            self.same(self.is_paper(("alike", (*pairs[:-1], thing))), False)
        for thing in (["alike", pairs], ("alike", list(pairs)), ("alike", pairs, ()), ("alike",), ("part", pairs),
                      ("alike", ()), ("alike", None), (True, pairs), pairs, ("part", (), (), "end")):
            self.same(self.is_paper(thing), False)

    def test_part(self):
        rows = ["q = f", "others", "len q"]
        self.parts("a:f", rows, ["q = now f", "others", "count q"], "shown", 2)
        labels = (("write", "a", 0), ("go",))
        self.same(self.is_paper(("part", (1,), labels, "shown")), True)
        # It need not have the fewest labels.
        self.same(self.is_paper(("part", (1,), (("remove",), ("put", 1), *labels), "shown")), True)
        self.same(self.is_paper(("part", (), (("put", 1), ("go",)), "shown")), True)
        for thing in (
                ("part", (1,), labels, "end"), ("part", (1,), labels, "rhythm"), ("part", (1,), labels, ""),
                ("part", (1,), labels, None), ("part", (1,), labels, True), ("part", (1,), labels, ["shown"]),
                ("part", (1,), labels), ("part", (1,), labels, "shown", ""), ["part", (1,), labels, "shown"],
                ("part", (1,), list(labels), "shown"), ("part", [1], labels, "shown"),
                ("part", (True,), labels, "shown"), ("part", (0,), labels, "shown"), ("part", (2,), labels, "shown"),
                ("part", (1,), labels[:1], ""), ("part", (1,), labels[1:], "shown"), ("part", (1,), (), ""),
                ("part", (1,), (*labels, ()), "shown"), ("part", (1,), (("write", "a", False), ("go",)), "shown"),
                ("part", (1,), (["write", "a", 0], ("go",)), "shown"), ("part", (1,), (None,), "shown"),
                ("part", None, labels, "shown"), ("part", (1,), None, "shown"), ("parts", (1,), labels, "shown"),
                ("alike", self.told.paper[1]), (0, (1,), labels, "shown"), ("part", (), labels, "shown")):
            self.same(self.is_paper(thing), False)

    def test_no_alike_paper_where_they_part(self):
        self.parts("a:f", ["q = f", "wipe q"], ["q = all", "wipe q"], "end", 0)
        pairs = tuple([pair for start, pair in self.told.beginnings()])
        self.same(self.is_paper(("alike", pairs)), False)

    def test_any_values(self):
        self.compared("a", ["q = all"], ["q = all"])
        deep = (((((((("alike",),),),),),),),)
        for thing in ODD_VALUES + [0, "", "alike", deep, ("alike", deep), ("part", deep, deep, deep), ("part",)]:
            self.same(self.is_paper(thing), False)

    def test_errors(self):
        one = Program(["q = all", "others"], Form.read("a"))
        other = Program(["q = all", "others"], Form.read("b"))
        self.fails(OtherForm, {}, compare, one, USUAL, other, USUAL, most=1)
        self.fails(OtherForm, {}, is_comparison, one, USUAL, other, USUAL, None, most=1)
        self.fails(OtherForm, {}, compare, one, USUAL, Program([], Form.read("a:f")), USUAL)
        count = len(compare(one, USUAL, one, PLAIN))
        for function, more in ((compare, ()), (is_comparison, (None,))):
            function(one, USUAL, one, PLAIN, *more, most=count)
            self.fails(TooMany, {"what": "pairs"}, function, one, USUAL, one, PLAIN, *more, most=count - 1)
            self.fails(TooMany, {"what": "pairs"}, function, one, USUAL, one, PLAIN, *more, most=1)

    def test_too_many_also_if_they_part_sooner(self):
        form = Form.read("a:f")
        one = Program(["q = f", "len q", "others", "len q"], form)
        other = Program(["q = all", "len q", "others", "len q"], form)
        self.same(len(compare(one, USUAL, other, USUAL)), 0)
        self.fails(TooMany, {"what": "pairs"}, compare, one, USUAL, other, USUAL, most=5)
        # Behind a pair that parts nothing follows, and one pair may be enough.
        other = Program(["q = all", "wipe q", "others"], form)
        one = Program(["q = all", "wipe q", "len q"], form)
        self.same(compare(one, USUAL, other, USUAL, most=1).paper, ("part", (), (), "rhythm"))

    def test_too_many_by_default(self):
        rows = ("q = f", "x = q[?]", "x.a += ?", "others", "r = g", "y = r[?]", "x.a += ?", "others", "save x")
        program = Program(rows, Form.read("a:f,g,h"))
        self.fails(TooMany, {"what": "pairs"}, compare, program, USUAL, program, PLAIN)

    def test_by_name(self):
        program = Program(["q = all"], Form.read("a"))
        told = compare(one=program, here=USUAL, other=program, there=PLAIN, most=3000)
        self.assertIs(type(told), Comparison)
        self.same([len(told), len(told.beginnings())], [2, 2])
        self.same(is_comparison(one=program, here=USUAL, other=program, there=PLAIN, thing=told.paper, most=2), True)
        self.assertTrue(told == told)
        self.assertFalse(told == compare(program, USUAL, program, PLAIN))


class RealisedTest(PairsCase):

    def test_what_is_made(self):
        one = ["q = f", "others", "x = q[?]", "x.a += ?", "save x"]
        self.parts("a:f b", one, ["q = now f", "others", "y = q[?]", "y.a += ?", "save y"], "end", 4)
        real = self.told.realised()
        self.assertIs(type(real), Real)
        self.assertIs(real.programs[0], self.one)
        self.assertIs(real.programs[1], self.other)
        self.assertEqual(real.books, (USUAL, USUAL))
        self.same(list(real.filters), ["f"])
        told, other_told = real.played()
        self.assertNotEqual(told[2], other_told[2])
        self.same([told[4], other_told[4]], [True, True])

    def test_books(self):
        self.parts("a", ["q = all", "others", "len q"], ["q = all", "others", "count q"], "shown", 2, there=PLAIN)
        real = self.told.realised()
        self.assertEqual(real.books, (USUAL, PLAIN))
        self.same([told[0] for told in real.played()], [[1], [0]] if self.told.paper[1] == () else [[0], [1]])

    def test_by_rhythm(self):
        self.parts("a", ["q = all", "x = q[?]", "x.a = ?"], ["q = all", "x = q[?]", "show x.a"], "rhythm", 1)
        real = self.told.realised()
        self.same([real.outside.choices, len(real.played())], [(1,) if self.told.paper[2] == ((1,),) else (2,), 2])

    def test_one_has_only(self):
        self.parts("a", ["q = all", "has q[?]"], ["q = all", "len q"], "rhythm", 0)
        self.same(self.told.realised().outside.choices, ())

    def test_a_hundred_labels(self):
        for count in (98, 99, 100, 101, 121):
            self.parts("a:f", long_rows("f", count), long_rows("all", count), "shown", count)
            if count <= 100:
                told, other_told = self.told.realised().played()
                unlike = [at for at, (one, other) in enumerate(zip(told[0], other_told[0])) if one != other]
                self.same([len(told[0]), len(unlike)], [len(other_told[0]), 1])
            else:
                self.fails(TooMany, {"what": "labels"}, self.told.realised)


def long_rows(word, count):
    """Rows that show their condition behind so many labels: it is handed on through four names, one in each round."""
    return ["q = all", f"r = {word}", "vs = list q", "xs = list q", "ys = list q", "zs = list q",
            *["any q"] * ((count - 1) % 4), "repeat", "len zs", "zs = list ys", "ys = list xs", "xs = list vs",
            "vs = list r", *["count q"] * ((count - 1) // 4 - 2), "end"]
