from latequestions.books import Book
from latequestions.errors import NoFilter, NoField, NoName, OtherForm, Over
from latequestions.forms import Form
from latequestions.programs import Program
from latequestions.runs import Outside, Run, perform
from latequestions.stores import Row, Store
from support import FILTERS, FORM, GREATEST_KEY, GREATEST_VALUE, ODD_VALUES, Case, row, small_store

ALL = {1: row(1, 5), 2: row(50, 1), 3: row(9, 0)}


def hundreds(n, key):
    """A value that tells both of its arguments."""
    return 1000 * (n + 1) + key


class RunCase(Case):

    def run_of(self, *rows, book=None, outside=None, store=None):
        self.store = small_store(book) if store is None else store
        self.run_now = Run(Program(rows, FORM), self.store, Outside() if outside is None else outside)
        return self.run_now

    def done(self, *rows, book=None, picks=(), choices=(), cuts=(), deeds=(), value=hundreds):
        """A run that has gone to its end."""
        run = self.run_of(*rows, book=book, outside=Outside(picks, choices, cuts, deeds, value=value))
        run.go()
        self.same(run.is_over, True)
        return run


class BindingTest(RunCase):

    def test_a_new_run(self):
        program, store = Program(["q = all"], FORM), small_store()
        run = Run(program=program, store=store, outside=Outside())
        self.assertIs(run.program, program)
        self.assertIs(run.store, store)
        self.same([run.at, run.is_over, run.values_used, run.shown, run.refused, run.bound], [0, False, 0, [], [], ()])

    def test_late_and_early_buildings(self):
        run = self.done("q = cheap", "r = q & many")
        self.same([run.bound, run.holding("q"), run.holding("r"), run.store.asked], [("q", "r"), None, None, 0])
        run = self.done("q = cheap", "r = q & many", book=Book.plain())
        self.same([run.holding("q"), run.holding("r"), run.store.asked], [(1, 3), (1,), 2])

    def test_listed_buildings(self):
        run = self.done("q = now dear", "count q", "len q", book=Book.fresh())
        self.same([run.holding("q"), run.store.asked, run.shown], [(2,), 1, [1, 1]])

    def test_a_building_does_not_use_what_was_kept(self):
        run = self.done("q = cheap", "len q", "others", "r = q", "len r", deeds=[[("remove", 1)]])
        self.same([run.shown, run.holding("q"), run.holding("r"), run.store.asked], [[2, 1], (1, 3), (3,), 2])

    def test_a_building_that_is_done_again_makes_a_new_question(self):
        run = self.done("repeat", "q = all", "len q", "others", "end", picks=[1, 1, 0], deeds=[[("remove", 1)]])
        self.same([run.shown, run.store.asked, run.holding("q")], [[3, 2], 2, (2, 3)])

    def test_list(self):
        run = self.done("q = cheap", "xs = list q", "ys = list xs")
        self.same([run.holding("q"), run.holding("xs"), run.holding("ys"), run.store.asked], [(1, 3)] * 3 + [1])
        for one, other, third in zip(run.objects("q"), run.objects("xs"), run.objects("ys")):
            self.assertIs(one, other)
            self.assertIs(one, third)
        run = self.done("q = cheap", "xs = list q", "xs = list q", book=Book(list="ask"))
        self.same([run.holding("q"), run.holding("xs"), run.objects("q"), run.store.asked], [None, (1, 3), [], 2])

    def test_item(self):
        run = self.done("q = cheap", "len q", "x = q[?]", "y = q[?]", choices=[3, 2])
        self.same([run.holding("x"), run.holding("y"), run.objects("y")], [3, None, []])
        self.assertIs(run.objects("x")[0], run.objects("q")[1])
        self.assertIs(type(run.objects("x")[0]), Row)
        run = self.done("q = cheap", "x = q[?]", choices=[3])
        self.same([run.holding("q"), run.holding("x"), run.store.asked], [None, 3, 1])

    def test_part(self):
        run = self.done("q = all", "xs = q[?:?]", "ys = xs[?:?]", "zs = q[?:?]", cuts=[(1, 3), (2, 9), (3, 1)])
        self.same([run.holding("xs"), run.holding("ys"), run.holding("zs")], [(1, 2), (2,), ()])
        self.assertIs(run.objects("xs")[1], run.objects("ys")[0])
        self.same([run.store.asked, run.holding("q")], [2, None])

    def test_looks_that_show(self):
        rows = ("len q", "truth q", "count q", "any q", "has q[?]", "has q[?]")
        run = self.done("q = cheap", *rows, choices=[3, 2])
        self.same(run.shown, [2, True, 2, True, True, False])
        run = self.done("q = cheap & dear", *rows, choices=[3, 2])
        self.same(run.shown, [0, False, 0, False, False, False])
        run = self.done("q = cheap", "xs = list q", *[text.replace("q", "xs") for text in rows], choices=[1, 4])
        self.same(run.shown, [2, True, 2, True, True, False])

    def test_ways_of_looks(self):
        rows = ("q = all", "count q", "len q", "others", "count q", "len q")
        deeds = [[("remove", 1)]]
        for book, shown, asked in ((Book.usual(), [3, 3, 3, 3], 2), (Book.plain(), [3, 3, 3, 3], 1),
                                   (Book.fresh(), [3, 3, 2, 2], 4), (Book(count="anew"), [3, 3, 2, 3], 3),
                                   (Book(len="ask"), [3, 3, 2, 2], 4)):
            run = self.done(*rows, book=book, deeds=deeds)
            self.same([run.shown, run.store.asked], [shown, asked])

    def test_names_that_are_not_bound(self):
        run = self.run_of("q = all", "for w in q", "end")
        for name in ODD_VALUES + ["q", "w", "x", "cheap", "", 0, 1, ["q"], ("q",)]:
            self.fails(NoName, {"name": name}, run.holding, name)
            self.fails(NoName, {"name": name}, run.objects, name)
        run.go()
        self.same(run.bound, ("q",))
        self.fails(NoName, {"name": "w"}, run.holding, name="w")
        self.fails(NoName, {"name": "w"}, run.objects, name="w")

    def test_names_stay_bound_behind_branches(self):
        run = self.done("q = all", "either", "xs = list q", "or", "end", "repeat", "x = q[?]", "end", picks=[0, 1, 0],
                        choices=[2])
        self.same([run.bound, run.holding("x"), run.holding("xs")], [("q", "x", "xs"), 2, (1, 2, 3)])

    def test_results_are_new(self):
        run = self.done("q = all", "for w in q", "show w.price", "end", "x = q[?]", "others", "reread x", choices=[2],
                        deeds=[[("remove", 2)]])
        run.shown[0].clear()
        run.shown.clear()
        run.refused.clear()
        run.objects("q").clear()
        run.objects("x").clear()
        self.same([run.shown, run.refused], [[[(1, 1), (2, 50), (3, 9)]], [(6, 2)]])
        self.same([[thing.key for thing in run.objects(name)] for name in ("q", "x")], [[1, 2, 3], [2]])

    def test_properties_are_not_to_be_assigned(self):
        run = self.run_of("q = all")
        for name in ("is_over", "shown", "refused", "bound"):
            with self.assertRaises(AttributeError):
                setattr(run, name, [])

    def test_runs_and_stores_of_other_forms(self):
        program = Program(["q = all"], Form.read("price:cheap,dear stock"))
        self.fails(OtherForm, {}, Run, program, small_store(), Outside())
        Run(Program([], Form.read("stock:many price:dear,cheap")), small_store(), Outside())

    def test_equal_to_itself_only(self):
        run = self.run_of()
        self.assertTrue(run == run)
        self.assertFalse(run == Run(run.program, run.store, Outside()))


class WalkingTest(RunCase):

    def test_steps_of_a_walk(self):
        run = self.run_of("q = cheap", "for w in q", "w.price = ?", "show w.price", "save w", "end",
                          outside=Outside(value=hundreds))
        run.step()
        run.step()
        self.same([run.bound, run.holding("w"), run.holding("q")], [("q", "w"), (1, 3), (1, 3)])
        self.assertIs(run.objects("w")[1], run.objects("q")[1])
        run.step()
        self.same([run.values_used, [thing["price"] for thing in run.objects("w")]], [1, [1001, 1003]])
        run.step()
        self.same([run.shown, self.store.told()], [[[(1, 1001), (3, 1003)]], ALL])
        run.step()
        self.same(self.store.told(), {**ALL, 1: row(1001, 5), 3: row(1003, 0)})
        self.same([run.at, run.bound], [5, ("q", "w")])
        run.step()
        self.same([run.at, run.is_over, run.bound, run.store.asked], [6, True, ("q",), 1])

    def test_a_walk_over_no_objects(self):
        run = self.done("q = cheap & dear", "for w in q", "w.price = ?", "fresh show w.price", "save w", "delete w",
                        "reread w", "end", "len q")
        self.same([run.shown, run.refused, run.values_used, self.store.told()], [[[], 0], [], 1, ALL])

    def test_an_empty_walk_asks(self):
        run = self.done("q = all", "for w in q", "end", "for w in q", "end", book=Book(walk="anew"))
        self.same([run.store.asked, run.holding("q")], [2, None])

    def test_a_walk_over_a_listing(self):
        run = self.done("q = all", "xs = q[?:?]", "for w in xs", "w.stock += ?", "save w by stock", "end",
                        cuts=[(2, 4)])
        self.same(self.store.told(), {**ALL, 2: row(50, 1003), 3: row(9, 1003)})
        self.same(run.store.asked, 1)

    def test_all_kinds_of_refusal_in_a_walk(self):
        gone = [[("remove", 3), ("remove", 1)]]
        start = ("q = all", "for w in q", "w.price = ?", "end", "others", "for w in q")
        run = self.done(*start, "save w by stock", "save w touched", "reread w", "delete w", "end", deeds=gone)
        steps = [at for at, step in enumerate(run.program.steps) if step.in_walk][1:]
        self.same(run.refused, [(at, key) for at in steps for key in (1, 3)])
        self.same(self.store.told(), {})

    def test_fresh_in_a_walk(self):
        run = self.done("q = all", "len q", "others", "for w in q", "fresh show w.price", "fresh w.stock = ?", "end",
                        deeds=[[("write", 2, "price", 7), ("remove", 3)]])
        self.same(run.shown, [3, [(1, 1), (2, 7), (3, 9)]])
        self.same(run.refused, [(4, 3), (5, 3)])
        self.same([thing["stock"] for thing in run.objects("q")], [1001, 1002, 1003])


class DeedsTest(RunCase):

    start = ("q = all", "x = q[?]", "others")

    def after(self, *rows, deeds=(), book=None):
        """A run that has chosen the row 1; then others have done deeds, and the rows behind that are done."""
        return self.done(*self.start, *rows, choices=[1], deeds=[deeds], book=book)

    def object_now(self):
        thing = self.run_now.objects("x")[0]
        return [{field: thing[field] for field in thing}, thing.touched]

    def test_set_and_add(self):
        run = self.after("x.price = ?", "x.price += ?", "x.stock += ?")
        self.same(self.object_now(), [row(3002, 3006), ("price", "stock")])
        self.same([run.values_used, self.store.told(), run.shown, run.refused], [3, ALL, [], []])

    def test_values_without_a_function(self):
        self.done(*self.start, "x.price = ?", "x.stock = ?", "x.price += ?", choices=[1], value=None)
        self.same(self.object_now(), [row(2, 1), ("price", "stock")])

    def test_show(self):
        run = self.after("show x.price", "x.price = ?", "show x.price", "show x.stock",
                         deeds=[("write", 1, "price", 8)])
        self.same(run.shown, [(1, 1), (1, 1001), (1, 5)])
        run = self.after("show x.price", "fresh show x.price", "show x.price", deeds=[("write", 1, "price", 8)])
        self.same(run.shown, [(1, 1), (1, 8), (1, 8)])

    def test_show_of_a_row_that_is_gone(self):
        run = self.after("show x.price", "fresh show x.stock", deeds=[("remove", 1)])
        self.same([run.shown, run.refused], [[(1, 1), (1, 5)], [(4, 1)]])

    def test_save_whole(self):
        run = self.after("x.price = ?", "save x", deeds=[("write", 1, "stock", 70)])
        self.same(self.store.told()[1], row(1001, 5))
        self.same([self.object_now(), run.refused], [[row(1001, 5), ()], []])
        run = self.after("save x", deeds=[("remove", 1)])
        self.same([self.store.told(), run.refused], [ALL, []])

    def test_save_by(self):
        self.after("x.price = ?", "x.stock = ?", "save x by stock", deeds=[("write", 1, "price", 70)])
        self.same([self.store.told()[1], self.object_now()], [row(70, 2001), [row(1001, 2001), ("price",)]])
        run = self.after("x.price = ?", "save x by price, stock", deeds=[("remove", 1)])
        self.same([1 in self.store, self.object_now(), run.refused], [False, [row(1001, 5), ("price",)], [(4, 1)]])

    def test_save_touched(self):
        self.after("x.stock = ?", "save x touched", deeds=[("write", 1, "price", 70)])
        self.same([self.store.told()[1], self.object_now()], [row(70, 1001), [row(1, 1001), ()]])
        run = self.after("save x touched", "x.stock = ?", "save x touched", deeds=[("remove", 1)])
        self.same([run.refused, 1 in self.store], [[(5, 1)], False])

    def test_reread(self):
        run = self.after("x.stock = ?", "reread x", deeds=[("write", 1, "price", 70)])
        self.same([self.object_now(), run.refused], [[row(70, 5), ()], []])
        run = self.after("x.stock = ?", "reread x", deeds=[("remove", 1)])
        self.same([self.object_now(), run.refused], [[row(1, 1001), ("stock",)], [(4, 1)]])

    def test_delete(self):
        run = self.after("delete x", "show x.price", "delete x")
        self.same([run.shown, run.refused, self.store.told()], [[(1, 1)], [(5, 1)], {2: ALL[2], 3: ALL[3]}])

    def test_fresh(self):
        self.after("x.stock = ?", "fresh x.price += ?", deeds=[("write", 1, "price", 70)])
        self.same(self.object_now(), [row(2071, 5), ("price",)])
        self.after("x.stock = ?", "fresh x.price = ?", deeds=[("write", 1, "price", 70)])
        self.same(self.object_now(), [row(2001, 5), ("price",)])

    def test_fresh_with_a_row_that_is_gone(self):
        run = self.after("x.stock = ?", "fresh x.price += ?", "fresh x.price += ?", deeds=[("remove", 1)])
        self.same([self.object_now(), run.refused], [[row(5003, 1001), ("price", "stock")], [(4, 1), (5, 1)]])

    def test_a_name_that_holds_nothing(self):
        rows = ("x.price = ?", "fresh x.price += ?", "show x.price", "fresh show x.stock", "save x", "save x touched",
                "save x by price", "reread x", "delete x")
        run = self.done("q = all", "x = q[?]", *rows, choices=[4])
        self.same([run.shown, run.refused, run.values_used, self.store.told()], [[None, None], [], 2, ALL])
        self.same([run.holding("x"), run.objects("x")], [None, []])

    def test_update(self):
        run = self.done("q = cheap", "len q", "update q.price = ?", "len q", "count q", "update q.price = ?")
        self.same(self.store.told(), {**ALL, 1: row(1001, 5), 3: row(1003, 0)})
        self.same([run.shown, run.values_used, run.store.asked], [[2, 2, 2], 2, 1])
        self.same([thing["price"] for thing in run.objects("q")], [1, 9])

    def test_raise(self):
        run = self.done("q = ~dear", "update q.stock += ?", "update q.price += ?")
        self.same(self.store.told(), {1: row(2002, 1006), 2: row(50, 1), 3: row(2012, 1003)})
        self.same([run.values_used, run.store.asked, run.shown], [2, 0, []])

    def test_wipe(self):
        run = self.done("q = cheap", "x = q[?]", "wipe q", "wipe q", "show x.price", "len q", choices=[1])
        self.same([self.store.told(), run.shown, run.refused], [{2: ALL[2]}, [(1, 1), 0], []])

    def test_greatest_keys_and_values(self):
        store = Store(FORM, {GREATEST_KEY: row(GREATEST_VALUE, 0), -GREATEST_KEY: row(0, 0)}, FILTERS)
        outside = Outside([], [GREATEST_KEY], [(-GREATEST_KEY, GREATEST_KEY)],
                          [[("put", 1, (-GREATEST_VALUE, 2)), ("write", GREATEST_KEY, "stock", 10 ** 45)]],
                          value=lambda n, key: GREATEST_VALUE)
        run = self.run_of("q = all", "x = q[?]", "xs = q[?:?]", "others", "fresh x.price += ?", "save x",
                          "update q.price += ?", store=store, outside=outside)
        self.same(run.go(), 7)
        self.same([run.holding("x"), run.holding("xs")], [GREATEST_KEY, (-GREATEST_KEY,)])
        self.same(store.told(), {-GREATEST_KEY: row(GREATEST_VALUE, 0), 1: row(0, 2),
                                 GREATEST_KEY: row(3 * GREATEST_VALUE, 10 ** 45)})

    def test_an_elder_copy_is_written_back(self):
        rows = ("q = all", "others", "x = q[?]", "x.stock = ?", "save x")
        deeds = [[("write", 1, "price", 8)]]
        for book, price in ((Book.usual(), 8), (Book.plain(), 1), (Book.fresh(), 8)):
            self.done(*rows, book=book, choices=[1], deeds=deeds)
            self.same(self.store.told()[1], row(price, 1001))

    def test_quiet_blocks_do_not_make_the_store_quiet(self):
        run = self.run_of("quiet", "q = all", "len q", "end")
        run.step()
        self.same(run.store.is_quiet, False)
        run.store.others().remove(1)
        run.step()
        self.same(run.shown, [2])


class PerformTest(Case):

    def test_perform(self):
        program = Program(["q = cheap", "x = q[?]", "others", "show x.price", "reread x", "save x by stock", "len q"],
                          FORM)
        rows = {1: row(1, 5), 2: row(50, 1)}
        told = perform(program, rows, FILTERS, Book.usual(), Outside([], [1], [], [[("remove", 1)]]))
        self.same(told, ([(1, 1), 0], [(4, 1), (5, 1)], {2: row(50, 1)}, 2, True))
        self.same(rows, {1: row(1, 5), 2: row(50, 1)})
        told = perform(program=program, rows=rows, filters=FILTERS, book=Book.plain(), outside=Outside(choices=[1]))
        self.same(told, ([(1, 1), 1], [], rows, 1, True))

    def test_a_run_that_waits(self):
        program = Program(["q = all", "len q", "x = q[?]", "len q"], FORM)
        self.same(perform(program, {}, FILTERS, Book.usual(), Outside()), ([0], [], {}, 1, False))

    def test_nothing_to_do(self):
        self.same(perform(Program([], Form.read("a")), {}, {}, Book.usual(), Outside()), ([], [], {}, 0, True))

    def test_errors(self):
        program = Program(["q = all"], FORM)
        self.fails(NoFilter, {"name": "cheap"}, perform, program, {1: {}}, {}, Book.usual(), Outside())
        self.fails(NoField, {"field": "stock"}, perform, program, {1: {"price": 1}}, FILTERS, Book.usual(), Outside())

    def test_over(self):
        run = Run(Program([], FORM), small_store(), Outside())
        self.same([run.is_over, run.go()], [True, 0])
        self.fails(Over, {}, run.step)
