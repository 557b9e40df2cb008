"""Runs that wait, that are over, and whose steps raise errors."""

from latequestions.books import Book
from latequestions.errors import BadDeed, BadPick, Held, Over, Waiting
from latequestions.forms import Form
from latequestions.programs import Program
from latequestions.runs import Outside, Run, perform
from latequestions.stores import Store
from support import FILTERS, FORM, Case, Trouble, row, small_store

ALL = {1: row(1, 5), 2: row(50, 1), 3: row(9, 0)}


def state(run):
    """All that is seen of a run and its store."""
    objects = {name: [(thing.key, [thing[field] for field in thing], thing.touched) for thing in run.objects(name)]
               for name in run.bound}
    holding = [run.holding(name) for name in run.bound]
    return [run.at, run.values_used, run.shown, run.refused, run.bound, objects, holding, run.store.told(),
            run.store.asked]


class ErrorCase(Case):

    def run_of(self, *rows, **outside):
        return Run(Program(rows, FORM), small_store(), Outside(**outside))

    def stays(self, error, fields, run, call=None):
        """A step raises this error again and again, and nothing is changed."""
        before = state(run)
        for _ in range(2):
            self.fails(error, fields, run.step if call is None else call)
            self.same(state(run), before)


class PicksTest(ErrorCase):

    def test_repeat(self):
        rows = ("q = all", "repeat", "len q", "end", "count q")
        for picks, shown in (([0], [3]), ([1, 0, 1], [3, 3]), ([1, 1, 1, 0], [3] * 4)):
            run = self.run_of(*rows, picks=picks)
            self.same(run.go(), 2 * len(shown) + 1)
            self.same([run.shown, run.is_over], [shown, True])

    def test_either(self):
        for pick, shown in ((0, [3, 3]), (1, [3]), (2, [True, 3])):
            run = self.run_of("q = all", "either", "count q", "or", "or", "truth q", "end", "len q", picks=[pick])
            self.same(run.go(), 2 + len(shown))
            self.same([run.shown, run.is_over], [shown, True])

    def test_an_empty_repeat(self):
        run = self.run_of("repeat", "end", picks=[1, 1, 0])
        run.step()
        self.same(run.at, 0)
        self.same(run.go(), 2)
        self.same(run.is_over, True)

    def test_picks_are_taken_in_order(self):
        rows = ("q = all", "repeat", "either", "len q", "or", "any q", "end", "end")
        run = self.run_of(*rows, picks=(1, 1, 1, 0, 1, 1, 0))
        self.same(run.go(), 11)
        self.same(run.shown, [True, 3, True])

    def test_wrong_picks(self):
        for pick in (-1, 2, 7, -2, 10 ** 30, True, False):
            run = self.run_of("q = all", "len q", "repeat", "end", picks=[pick, 0])
            self.fails(BadPick, {"pick": pick}, run.go)
            self.same([run.at, run.shown], [2, [3]])
            self.stays(BadPick, {"pick": pick}, run)
            self.stays(BadPick, {"pick": pick}, run, run.go)
        run = self.run_of("either", "or", "or", "end", picks=[3])
        self.stays(BadPick, {"pick": 3}, run)
        run = self.run_of("either", "or", "or", "end", picks=[2])
        run.step()
        self.same(run.is_over, True)

    def test_perform(self):
        program = Program(["repeat", "end"], FORM)
        self.fails(BadPick, {"pick": 2}, perform, program, {}, FILTERS, Book.usual(), Outside([1, 2]))


class WaitingTest(ErrorCase):

    def test_waiting(self):
        for look, kind in (("repeat\nend", "picks"), ("either\nor\nend", "picks"), ("x = q[?]", "choices"),
                           ("has q[?]", "choices"), ("xs = q[?:?]", "cuts")):
            rows = ["q = all", "len q", *look.split("\n"), "len q"]
            full = {"picks": [0], "choices": [1], "cuts": [(1, 2)]}
            run = self.run_of(*rows, **{name: full[name] for name in full if name != kind})
            self.same(run.go(), 2)
            self.same([run.at, run.is_over, run.shown], [2, False, [3]])
            self.stays(Waiting, {"at": 2}, run)
            self.same(run.go(), 0)
            run = self.run_of(*rows, **{kind: full[kind]})
            self.same([run.go(), run.is_over], [4, True])

    def test_waiting_at_the_first_step(self):
        run = self.run_of("repeat", "end")
        self.stays(Waiting, {"at": 0}, run)

    def test_item_and_has_share_the_keys(self):
        run = self.run_of("q = all", "x = q[?]", "has q[?]", "has q[?]", "y = q[?]", "has q[?]", choices=(3, 5, 1, 2))
        self.same(run.go(), 5)
        self.same([run.holding("x"), run.shown, run.holding("y"), run.at], [3, [False, True], 2, 5])
        self.stays(Waiting, {"at": 5}, run)

    def test_others_do_not_wait(self):
        run = self.run_of("others", "q = all", "others", "len q", deeds=[[("remove", 3)]])
        self.same([run.go(), run.is_over, run.shown], [4, True, [2]])

    def test_what_is_left_over(self):
        run = self.run_of("others", picks=[9], choices=[1], cuts=[(1, 2)], deeds=[[], [("write", 1, "x", 1)]])
        self.same([run.go(), run.is_over, run.store.told()], [1, True, ALL])

    def test_over(self):
        run = self.run_of("q = all", picks=[7])
        run.step()
        self.stays(Over, {}, run)
        self.same(run.go(), 0)

    def test_step_returns_nothing(self):
        self.same(self.run_of("q = all").step(), None)


class OthersTest(ErrorCase):

    def test_deeds_in_order(self):
        deeds = [[("put", 4, (1, 2)), ("write", 4, "stock", 3), ("write", 9, "stock", 3), ("remove", 1), ("remove", 1)],
                 [], [("put", 1, (7, 7)), ("remove", 4)]]
        run = self.run_of("others", "others", "others", deeds=deeds)
        run.step()
        self.same(run.store.told(), {2: ALL[2], 3: ALL[3], 4: row(1, 3)})
        run.step()
        self.same(run.store.told(), {2: ALL[2], 3: ALL[3], 4: row(1, 3)})
        run.step()
        self.same(run.store.told(), {**ALL, 1: row(7, 7)})
        self.same([run.shown, run.refused, run.is_over], [[], [], True])

    def test_deeds_that_are_wrong_in_the_middle(self):
        for deed in (("put", 1, (1,)), ("put", 1, (1, 2, 3)), ("write", 1, "cheap", 1), ("write", 9, "", 1)):
            run = self.run_of("q = all", "others", deeds=[[("put", 4, (1, 2)), deed, ("remove", 2)]])
            self.fails(BadDeed, {"deed": deed}, run.go)
            self.same([run.at, run.store.told()], [1, {**ALL, 4: row(1, 2)}])
            self.stays(BadDeed, {"deed": deed}, run)
            # The list is done from its beginning again.
            run.store.others().remove(4)
            self.fails(BadDeed, {"deed": deed}, run.step)
            self.same([run.at, run.store.told()], [1, {**ALL, 4: row(1, 2)}])

    def test_a_quiet_store(self):
        run = self.run_of("others", "others", deeds=[[], [("remove", 1), ("remove", 2)]])
        with run.store.quiet():
            run.step()
            self.stays(Held, {"key": 1}, run)
            self.stays(Held, {"key": 1}, run, run.go)
        run.step()
        self.same([run.store.told(), run.is_over], [{3: ALL[3]}, True])

    def test_the_kind_of_a_deed_before_a_quiet_store(self):
        run = self.run_of("others", deeds=[[("put", 1, (1,))]])
        with run.store.quiet():
            self.stays(BadDeed, {"deed": ("put", 1, (1,))}, run)

    def test_perform(self):
        program = Program(["others"], FORM)
        self.fails(BadDeed, {"deed": ("put", 1, (1,))}, perform, program, {}, FILTERS, Book.usual(),
                   Outside(deeds=[[("remove", 1), ("put", 1, (1,))]]))


class TroubleTest(ErrorCase):
    """Functions that are passed may raise: the step has then changed nothing."""

    def test_values(self):
        def value(n, key):
            if key == 3:
                raise Trouble()
            return 100
        for row_text in ("w.price = ?", "w.price += ?", "fresh w.price = ?", "fresh w.price += ?"):
            run = self.run_of("q = all", "len q", "others", "for w in q", row_text, "end", value=value,
                              deeds=[[("remove", 1), ("write", 2, "price", 8)]])
            self.fails(Trouble, {}, run.go)
            self.same(run.at, 4)
            self.stays(Trouble, {}, run)
        for row_text in ("update q.price = ?", "update q.price += ?"):
            run = self.run_of("q = all", "len q", row_text, value=value)
            self.fails(Trouble, {}, run.go)
            self.same(run.at, 2)
            self.stays(Trouble, {}, run)

    def test_filters(self):
        def check(value):
            if value > 10 and self.is_strict:
                raise Trouble()
            return True
        rows = ("len q", "truth q", "count q", "any q", "has q[?]", "x = q[?]", "xs = list q", "xs = q[?:?]",
                "for w in q",
                "update q.price = ?", "wipe q", "r = now q")
        for text in rows:
            self.is_strict = True
            store = Store(FORM, ALL, {**FILTERS, "cheap": check})
            more = ["end"] if text.startswith("for") else []
            run = Run(Program(["q = cheap", text, *more], FORM), store, Outside([], [1], [(1, 9)]))
            run.step()
            self.stays(Trouble, {}, run)
            self.is_strict = False
            run.step()
            self.same(run.at, 2)

    def test_values_are_the_same_for_each_call(self):
        calls = {}

        def value(n, key):
            calls[n, key] = calls.get((n, key), 0) + 1
            return n * 10 + key
        store = Store(Form.read("a"), {1: {"a": 0}, 2: {"a": 0}}, {})
        rows = ["q = all", "for w in q", "w.a = ?", "w.a += ?", "save w", "end", "x = q[?]", "x.a = ?", "x = q[?]",
                "x.a = ?", "save x", "update q.a += ?"]
        run = Run(Program(rows, store.form), store, Outside([], [2, 7], value=value))
        run.go()
        self.same(sorted(calls), [(0, 1), (0, 2), (1, 1), (1, 2), (2, 2), (4, 1), (4, 2)])
        self.same([run.values_used, store.told()], [5, {1: {"a": 53}, 2: {"a": 56}}])
