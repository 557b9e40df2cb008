"""Twins: two runs on two real stores, told for any key as a world (points 19, 20 and 23)."""

import random

from latequestions.books import Book
from latequestions.errors import BadDeed, BadPick, Held, NoField, NoFilter, NotAlong, Over, TooMany, Waiting
from latequestions.forms import Form
from latequestions.programs import Program
from latequestions.runs import Outside, Run
from latequestions.stores import Store
from latequestions.twins import Twin
from latequestions.worlds import Worlds
from support import FILTERS, FORM, GREATEST_KEY, ODD_VALUES, Case, Trouble, row
from test_table_runs import KEYS, drawn_store, go_by_followers, random_outside
from twinned import Twins, random_book, random_program

USUAL, PLAIN, FRESH = Book.usual(), Book.plain(), Book.fresh()
ROWS = {1: row(1, 5), 2: row(50, 1), 3: row(9, 0)}


def twin_of(*rows, books=(USUAL, PLAIN), outside=None, store_rows=ROWS, form=FORM, filters=FILTERS, **named):
    outside = Outside() if outside is None else outside
    return Twin(Program(rows, form), store_rows, filters, *books, outside, **named)


class TwinTest(Case):

    def test_a_new_twin(self):
        program, outside = Program(["q = cheap", "len q"], FORM), Outside()
        twin = Twin(program=program, rows=ROWS, filters=FILTERS, here=USUAL, there=PLAIN, outside=outside, against=None)
        self.assertIs(type(twin.here), Run)
        self.assertIs(type(twin.there), Run)
        self.assertIs(twin.here.program, program)
        self.assertIs(twin.there.program, program)
        self.assertIs(type(twin.stores), tuple)
        self.assertEqual([type(store) for store in twin.stores], [Store, Store])
        self.assertIs(twin.here.store, twin.stores[0])
        self.assertIs(twin.there.store, twin.stores[1])
        self.assertEqual([twin.stores[0].book, twin.stores[1].book], [USUAL, PLAIN])
        self.same([twin.at, twin.here.at, twin.there.at], [0, 0, 0])
        self.same([store.told() for store in twin.stores], [ROWS, ROWS])
        self.assertTrue(twin == twin)
        self.assertFalse(twin == twin_of("q = cheap", "len q"))
        with self.assertRaises(TypeError):
            Twin(program, ROWS, FILTERS, USUAL, PLAIN, outside, program)

    def test_the_third_example(self):
        program = Program(["q = all", "x = q[?]"], Form.read("a"))
        twin = Twin(program, {7: {"a": 5}}, {}, USUAL, PLAIN, Outside([], [7]))
        self.same(twin.step(), None)
        self.same(twin.step(), None)
        self.same(twin.world_of(7), (2, ((0,), (("q", "unasked"), ("x", 0)), (((0, 0),),)),
                                     ((0,), (("q", 0), ("x", 0)), (((0, 0),),)), ((0,),)))

    def test_both_stores_are_their_own(self):
        twin = twin_of("q = cheap", "x = q[?]", "x.stock = ?", "save x", "len q",
                       outside=Outside([], [1], value=lambda n, key: 70 + n + key))
        twin.stores[0].others().write(1, "price", 99)
        for at in range(5):
            self.same([twin.at, twin.here.at, twin.there.at], [at] * 3)
            twin.step()
        self.same([twin.at, twin.here.is_over, twin.there.is_over], [5, True, True])
        # The store here had no cheap row 1 when the question was asked; the one there had.
        self.same([store.told()[1] for store in twin.stores], [row(99, 5), row(1, 71)])
        self.same([twin.here.shown, twin.there.shown], [[1], [2]])

    def test_against(self):
        program = Program(["q = all", "x = q[?]", "x.stock = ?", "others", "save x"], FORM)
        against = program.turned([4])
        outside = Outside([], [1], deeds=[[("write", 1, "price", 7)]], value=lambda n, key: 70)
        twin = Twin(program, ROWS, FILTERS, USUAL, USUAL, outside, against=against)
        self.assertIs(twin.here.program, program)
        self.assertIs(twin.there.program, against)
        for _ in range(5):
            twin.step()
        self.same([store.told()[1] for store in twin.stores], [row(1, 70), row(7, 70)])

    def test_what_is_passed_is_copied(self):
        rows, picks = {1: dict(row(1, 5))}, [7]
        twin = Twin(Program(["q = all", "x = q[?]"], FORM), rows, FILTERS, USUAL, PLAIN, Outside([], picks))
        rows[1]["price"] = 8
        rows[2] = row(0, 0)
        picks[0] = 1
        self.same([store.told() for store in twin.stores], [{1: row(1, 5)}] * 2)
        twin.stores[0].told().clear()
        twin.step()
        twin.step()
        self.same(twin.world_of(1)[1][1], (("q", "unasked"), ("x", "other")))
        self.same(rows, {1: row(8, 5), 2: row(0, 0)})

    def test_errors_and_their_order(self):
        program = Program(["q = all"], FORM)
        other = Program(["q = cheap"], FORM)
        few = {"cheap": FILTERS["cheap"]}
        args = (USUAL, PLAIN, Outside())
        self.fails(NotAlong, {}, Twin, program, {1: {}}, {}, *args, against=other)
        self.fails(NotAlong, {}, Twin, program, {1: {}}, {}, *args, against=Program([], FORM))
        self.fails(NotAlong, {}, Twin, program, ROWS, FILTERS, *args, against=Program(["q = all"], Form.read("a")))
        self.fails(NoFilter, {"name": "dear"}, Twin, program, {1: {}}, few, *args, against=program)
        self.fails(NoField, {"field": "stock"}, Twin, program, {1: {"price": 1}, 2: {}}, FILTERS, *args)
        self.fails(NoField, {"field": "price"}, Twin, program, {1: {}, 2: {}}, FILTERS, *args)

    def test_functions_that_raise(self):
        def test(value):
            raise Trouble("test")
        twin = twin_of("q = cheap", "len q", filters={**FILTERS, "cheap": test})
        with self.assertRaises(Trouble):
            twin.world_of(1)
        # A row that is not there has no values to ask about.
        self.same(twin.world_of(9), (0, ((), (), ()), ((), (), ()), ((), ())))


class StepTest(Case):

    def test_over(self):
        twin = twin_of()
        self.same(twin.at, 0)
        self.fails(Over, {}, twin.step)
        twin = twin_of("q = all")
        twin.step()
        self.fails(Over, {}, twin.step)
        self.same(twin.at, 1)

    def test_waiting_and_wrong_picks_change_nothing(self):
        for rows, outside, error, fields in (
                (["q = all", "x = q[?]"], Outside(), Waiting, {"at": 1}),
                (["q = all", "xs = q[?:?]"], Outside(), Waiting, {"at": 1}),
                (["q = all", "has q[?]"], Outside(), Waiting, {"at": 1}),
                (["q = all", "repeat", "end"], Outside(), Waiting, {"at": 1}),
                (["q = all", "repeat", "end"], Outside([2]), BadPick, {"pick": 2}),
                (["q = all", "either", "or", "or", "end"], Outside([-1]), BadPick, {"pick": -1})):
            twin = twin_of(*rows, outside=outside)
            twin.step()
            before = twin.world_of(1)
            for _ in range(2):
                self.fails(error, fields, twin.step)
                self.same([twin.at, twin.here.at, twin.there.at], [1, 1, 1])
                self.same(twin.world_of(1), before)

    def test_picks(self):
        twin = twin_of("repeat", "either", "q = all", "or", "or", "r = all", "end", "end",
                       outside=Outside([1, 2, 1, 0, 0]))
        ats = []
        while twin.at < 4:
            ats.append(twin.at)
            twin.step()
        self.same(ats, [0, 1, 3, 0, 1, 2, 0])
        self.same(twin.world_of(1)[1][1], (("q", "unasked"), ("r", "unasked")))

    def test_wrong_deeds(self):
        for deed in (("put", 1, (1,)), ("write", 1, "cheap", 1), ("write", 1, "a", 1)):
            twin = twin_of("others", outside=Outside(deeds=[[deed]]))
            self.fails(BadDeed, {"deed": deed}, twin.step)

    def test_a_quiet_store(self):
        twin = twin_of("others", outside=Outside(deeds=[[("remove", 2)]]))
        with twin.stores[0].quiet():
            self.fails(Held, {"key": 2}, twin.step)


class DoTest(Case):

    def test_what_it_returns(self):
        twin = twin_of("q = all")
        self.same(twin.do(("write", 1, "price", 8)), True)
        self.same([store.told()[1] for store in twin.stores], [row(8, 5)] * 2)
        self.same(twin.do(deed=("remove", 2)), True)
        self.same(twin.do(("remove", 2)), False)
        self.same(twin.do(("write", 2, "price", 8)), False)
        self.same(twin.do(("put", 2, (4, 6))), True)
        self.same(twin.do(("put", -GREATEST_KEY, (4, 6))), True)
        expected = {-GREATEST_KEY: row(4, 6), 1: row(8, 5), 2: row(4, 6), 3: row(9, 0)}
        self.same([store.told() for store in twin.stores], [expected] * 2)
        self.same(twin.at, 0)

    def test_one_store_without_the_row(self):
        for place in (0, 1):
            for deed in (("write", 1, "price", 8), ("remove", 1)):
                twin = twin_of("q = all")
                twin.stores[place].others().remove(1)
                self.same(twin.do(deed), True)
                self.assertFalse(1 in twin.stores[place])
                told = twin.stores[1 - place].told()
                self.same(told.get(1), row(8, 5) if deed[0] == "write" else None)
                self.same(twin.do(("remove", 1)), deed[0] == "write")

    def test_wrong_deeds_change_nothing(self):
        twin = twin_of("q = all")
        for deed in ODD_VALUES + [("put", 1, (1,)), ("put", 1, (1, 2, 3)), ("put", 1, [1, 2]), ["remove", 1],
                                  ("write", 1, "cheap", 1), ("write", 1, "price", True), ("remove", True), "remove", 1]:
            self.fails(BadDeed, {"deed": deed}, twin.do, deed)
        with twin.stores[0].quiet():
            self.fails(BadDeed, {"deed": ("put", 1, ())}, twin.do, ("put", 1, ()))
        self.same([store.told() for store in twin.stores], [ROWS, ROWS])

    def test_a_quiet_store(self):
        for place in (0, 1):
            for deed in (("remove", 2), ("write", 2, "price", 1), ("put", 2, (1, 1)), ("remove", 77)):
                twin = twin_of("q = all")
                with twin.stores[place].quiet():
                    self.fails(Held, {"key": deed[1]}, twin.do, deed)
                self.same([store.told() for store in twin.stores], [ROWS, ROWS])


class WorldOfTest(Case):

    def test_keys_that_no_row_has(self):
        twin = twin_of("q = cheap", "x = q[?]", "xs = list q", outside=Outside([], [4]))
        nothing = ((), (), ())
        for key in (4, 0, -1, GREATEST_KEY):
            self.same(twin.world_of(key), (0, nothing, nothing, ((), ())))
        for _ in range(3):
            twin.step()
        self.same(twin.world_of(4), (3, ((), (("q", "out"), ("x", "out"), ("xs", "out")), ()),
                                     ((), (("q", "out"), ("x", "out"), ("xs", "out")), ()), ((), ())))
        self.same(twin.world_of(key=0)[1][1], (("q", "out"), ("x", "other"), ("xs", "out")))

    def test_no_rows(self):
        twin = twin_of("q = cheap", "len q", store_rows={})
        twin.step()
        twin.step()
        self.same(twin.world_of(1), (2, ((), (("q", "out"),), ()), ((), (("q", "out"),), ()), ((), ())))

    def test_numbers_are_equal_for_equal_integers(self):
        twin = twin_of("q = all", "len q", "x = q[?]", "x.price = ?", "x.stock = ?", store_rows={1: row(5, 5)},
                       outside=Outside([], [1], value=lambda n, key: (6, 5)[n]))
        for _ in range(4):
            twin.step()
        twin.do(("write", 1, "price", 6))
        twin.step()
        side = ((0, 0), (("q", 0), ("x", 0)), (((0, 1), (0, 0)),))
        # The stock was set to what it was: it is touched, but equal integers have equal numbers.
        self.same(twin.world_of(1), (5, side, side, ((1, 1), (1,))))
        self.same(twin.here.objects("x")[0].touched, ("price", "stock"))

    def test_numbers_over_both_sides(self):
        form = Form.read("a b")
        program = Program(["q = all", "x = q[?]", "x.a = ?", "save x"], form)
        twin = Twin(program, {1: {"a": 3, "b": 4}}, {}, PLAIN, USUAL, Outside([], [1], value=lambda n, key: 4))
        twin.step()
        twin.do(("write", 1, "a", 9))
        twin.do(("write", 1, "b", 3))
        twin.step()
        twin.step()
        self.same(twin.world_of(1), (3, ((0, 0), (("q", 0), ("x", 0)), (((1, 2), (1, 1)),)),
                                     ((0, 0), (("q", "unasked"), ("x", 0)), (((1, 0), (0, 0)),)),
                                     ((0, 0, 0), (0, 0))))
        twin.step()
        self.same(twin.world_of(1), (4, ((0, 0), (("q", 0), ("x", 0)), (((0, 0), (0, 0)),)),
                                     ((0, 1), (("q", "unasked"), ("x", 0)), (((0, 0), (1, 1)),)), ((0,), (0, 0))))

    def test_masks(self):
        twin = twin_of("q = all", "x = q[?]", "x.price = ?", outside=Outside([], [2], value=lambda n, key: 3))
        self.same([twin.world_of(key)[3] for key in (1, 2, 3)], [((1,), (1,)), ((2,), (0,)), ((1,), (0,))])
        for _ in range(3):
            twin.step()
        self.same(twin.world_of(2)[3], ((2, 1), (0,)))

    def test_things(self):
        twin = twin_of("q = cheap", "r = dear", "len r", "xs = list q", "x = q[?]", "for w in r", "end",
                       books=(USUAL, USUAL), outside=Outside([], [3]))
        for _ in range(6):
            twin.step()
        words = {key: dict(twin.world_of(key)[1][1]) for key in (1, 2, 3)}
        self.same(words[1], {"q": 0, "r": "out", "w": "out", "x": "other", "xs": 0})
        self.same(words[2], {"q": "out", "r": 0, "w": 0, "x": "other", "xs": "out"})
        self.same(words[3], {"q": 0, "r": "out", "w": "out", "x": 0, "xs": 0})
        twin.step()
        self.same([name for name, thing in twin.world_of(2)[1][1]], ["q", "r", "x", "xs"])

    def test_an_object_of_a_key_that_is_chosen_again(self):
        twin = twin_of("q = all", "x = q[?]", "x = q[?]", outside=Outside([], [1, 2]))
        for _ in range(2):
            twin.step()
        self.same([dict(twin.world_of(key)[1][1])["x"] for key in (1, 2)], [0, "other"])
        twin.step()
        self.same([dict(twin.world_of(key)[1][1])["x"] for key in (1, 2)], ["other", 0])

    def test_a_choice_behind_has_is_another_one(self):
        twin = twin_of("q = all", "has q[?]", "x = q[?]", outside=Outside([], [1, 2]))
        for _ in range(3):
            twin.step()
        self.same([dict(twin.world_of(key)[1][1])["x"] for key in (1, 2)], ["other", 0])

    def test_telling_changes_nothing(self):
        twin = twin_of("q = cheap", "len q")
        twin.step()
        asked = [store.asked for store in twin.stores]
        self.same(twin.world_of(1), twin.world_of(1))
        self.same([store.asked for store in twin.stores], asked)


class RandomTest(Case):

    def test_as_the_oracle_tells(self):
        """Also with values that are equal by chance, for all keys."""
        for seed in range(150):
            chance, program, against, here, there = drawn_programs(seed)
            filters, rows = drawn_store(chance, program.form)
            outside = few_values(random_outside(chance, program.form))
            twin = Twin(program, rows, filters, here, there, outside, against=against)
            oracle = Twins(program, against, here, there, rows, filters, outside)
            try:
                while True:
                    for key in (*KEYS, 0):
                        self.same(twin.world_of(key), oracle.world_of(key))
                    if twin.here.is_over:
                        break
                    twin.step()
                    oracle.step()
            except Waiting:
                pass

    def test_with_free_values_it_goes_by_followers(self):
        for seed in range(150):
            chance, program, against, here, there = drawn_programs(seed)
            try:
                table = Worlds(program, here, there, against=against)
            except TooMany:
                continue
            filters, rows = drawn_store(chance, program.form)
            outside = random_outside(chance, program.form)
            twin = Twin(program, rows, filters, here, there, outside, against=against)
            go_by_followers(self, twin, table, program, outside)


def drawn_programs(seed):
    chance = random.Random(seed)
    program = random_program(seed, 10)
    against = program.turned([at for at in program.turnable() if chance.random() < 0.3])
    return chance, program, against, random_book(chance), random_book(chance)


def few_values(outside):
    """The same from outside, but with values that are often equal."""
    deeds = [[few_in_deed(deed) for deed in several] for several in outside.deeds]
    return Outside(outside.picks, outside.choices, outside.cuts, deeds, value=lambda n, key: (n * key) % 3)


def few_in_deed(deed):
    if deed[0] == "put":
        return "put", deed[1], tuple([value.bit_length() % 3 for value in deed[2]])
    return (*deed[:3], deed[3].bit_length() % 3) if deed[0] == "write" else deed
