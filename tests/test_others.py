from latequestions.errors import BadDeed, Held, NoField
from latequestions.forms import Form
from latequestions.stores import Store
from support import GREATEST_KEY, GREATEST_VALUE, ODD_VALUES, Case, row, small_store


class OthersTest(Case):

    def setUp(self):
        self.store = small_store()
        self.others = self.store.others()
        self.before = self.store.told()

    def unchanged(self):
        self.same(self.store.told(), self.before)

    def test_put(self):
        self.same(self.others.put(2, stock=7, price=6), True)
        self.same(self.others.put(0, price=GREATEST_VALUE, stock=-GREATEST_VALUE), True)
        self.same(self.others.put(key=-GREATEST_KEY, price=0, stock=0), True)
        self.same(self.store.told(), {
            -GREATEST_KEY: row(0, 0), 0: row(GREATEST_VALUE, -GREATEST_VALUE),
            1: row(1, 5), 2: row(6, 7), 3: row(9, 0),
        })
        self.same(self.others.put(2, stock=7, price=6), True)

    def test_put_with_wrong_fields(self):
        self.fails(NoField, {"field": "price"}, self.others.put, 1)
        self.fails(NoField, {"field": "stock"}, self.others.put, 1, price=1)
        self.fails(NoField, {"field": "price"}, self.others.put, 1, stock=1, a=1)
        self.fails(NoField, {"field": "a"}, self.others.put, 1, stock=1, price=1, z=1, a=1)
        self.fails(NoField, {"field": "cheap"}, self.others.put, 8, stock=1, price=1, cheap=1)
        self.unchanged()

    def test_write(self):
        self.same(self.others.write(2, "stock", 7), True)
        self.same(self.store.told()[2], row(50, 7))
        self.same(self.others.write(2, "stock", 7), True)
        self.same(self.others.write(key=2, field="price", value=0), True)
        self.same(self.store.told(), {1: row(1, 5), 2: row(0, 7), 3: row(9, 0)})

    def test_write_to_a_row_that_is_not_there(self):
        self.same(self.others.write(7, "stock", 7), False)
        self.others.remove(2)
        self.same(self.others.write(2, "price", 1), False)
        self.same(self.store.told(), {1: row(1, 5), 3: row(9, 0)})

    def test_write_to_a_wrong_field(self):
        for thing in ODD_VALUES + ["", "cheap", "a", 0, ["price"], ("price",)]:
            self.fails(NoField, {"field": thing}, self.others.write, 1, thing, 5)
            self.fails(NoField, {"field": thing}, self.others.write, 9, thing, 5)
        self.unchanged()

    def test_remove(self):
        self.same(self.others.remove(2), True)
        self.same(self.store.told(), {1: row(1, 5), 3: row(9, 0)})
        self.same(self.others.remove(2), False)
        self.same(self.others.remove(key=9), False)
        self.same(self.store.told(), {1: row(1, 5), 3: row(9, 0)})

    def test_held(self):
        with self.store.quiet():
            self.fails(Held, {"key": 1}, self.others.put, 1, price=1, stock=1)
            self.fails(Held, {"key": 9}, self.others.put, 9, a=1)
            self.fails(Held, {"key": 1}, self.others.write, 1, "price", 5)
            self.fails(Held, {"key": 9}, self.others.write, 9, "a", 5)
            self.fails(Held, {"key": 1}, self.others.remove, 1)
            self.fails(Held, {"key": 9}, self.others.remove, 9)
            self.fails(Held, {"key": 1}, self.others.do, ("put", 1, (1, 1)))
            self.fails(Held, {"key": 9}, self.others.do, ("write", 9, "price", 1))
            self.fails(Held, {"key": 9}, self.others.do, ("remove", 9))
            self.fails(BadDeed, {"deed": ("remove", "9")}, self.others.do, ("remove", "9"))
        self.unchanged()

    def test_do(self):
        self.same(self.others.do(("put", 2, (7, 8))), True)
        self.same(self.others.do(("put", 0, (1, -1))), True)
        self.same(self.others.do(("write", 1, "stock", 6)), True)
        self.same(self.others.do(("write", 9, "stock", 6)), False)
        self.same(self.others.do(deed=("remove", 3)), True)
        self.same(self.others.do(("remove", 3)), False)
        self.same(self.store.told(), {0: row(1, -1), 1: row(1, 6), 2: row(7, 8)})

    def test_do_with_integers_of_any_size(self):
        self.same(self.others.do(("put", 10 ** 50, (10 ** 60, -10 ** 60))), True)
        self.same(self.store.told()[10 ** 50], row(10 ** 60, -10 ** 60))

    def test_do_what_is_no_deed(self):
        for thing in ODD_VALUES + [
            0, "", "remove", ("remove",), ("remove", 1, 1), ["remove", 1], ("remove", True), ("remove", "1"),
            ("remove", None), ("delete", 1), ("Remove", 1), (1, "remove"), (["remove"], 1), (None, 1),
            ("put", 1), ("put", 1, ()), ("put", 1, (1,)), ("put", 1, (1, 2, 3)), ("put", 1, [1, 2]),
            ("put", 1, (1, True)), ("put", 1, (False, 1)), ("put", 1, (1, None)), ("put", 1, ("1", 2)),
            ("put", True, (1, 2)), ("put", "1", (1, 2)), ("put", 1, 2), ("put", 1, 1, 2), ("put", 1, (1, 2), 3),
            ["put", 1, (1, 2)], ("put", 1, {"price": 1, "stock": 2}), ("put", 1, ((1, 2),)), ("put", 1, "ab"),
            ("write", 1), ("write", 1, "price"), ("write", 1, "cheap", 1), ("write", 1, "", 1), ("write", 1, 0, 1),
            ("write", 1, ["price"], 1), ("write", 1, None, 1), ("write", 1, "price", True), ("write", 1, "price", "1"),
            ("write", 1, "price", None), ("write", 1, "price", (1,)), ("write", True, "price", 1),
            ("write", "1", "price", 1), ("write", 1, "price", 1, 1), ["write", 1, "price", 1],
        ]:
            self.fails(BadDeed, {"deed": thing}, self.others.do, thing)
        self.unchanged()

    def test_do_in_forms_of_one_and_three_fields(self):
        one = Store(Form.read("a"), {}, {})
        self.same(one.others().do(("put", 1, (5,))), True)
        self.fails(BadDeed, {"deed": ("put", 1, (5, 6))}, one.others().do, ("put", 1, (5, 6)))
        three = Store(Form.read("c b a"), {}, {})
        self.same(three.others().do(("put", 1, (5, 6, 7))), True)
        self.fails(BadDeed, {"deed": ("put", 1, (5, 6))}, three.others().do, ("put", 1, (5, 6)))
        self.fails(BadDeed, {"deed": ("put", 1, (5, 6, 7, 8))}, three.others().do, ("put", 1, (5, 6, 7, 8)))
        self.same([one.told(), three.told()], [{1: {"a": 5}}, {1: {"a": 5, "b": 6, "c": 7}}])

    def test_an_error_keeps_the_deed_as_it_was(self):
        deed = ["remove", [1]]
        try:
            self.others.do(deed)
        except BadDeed as error:
            caught = error
        deed[1].append(2)
        self.same(caught.deed, ["remove", [1]])
