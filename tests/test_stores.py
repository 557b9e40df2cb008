from latequestions.books import Book
from latequestions.errors import Held, NoField, NoFilter, NoRow
from latequestions.forms import Condition, Form
from latequestions.stores import Others, Question, Store
from support import FILTERS, FORM, GREATEST_KEY, GREATEST_VALUE, ODD_VALUES, Case, Trouble, row, small_store


class MakingStoresTest(Case):

    def test_told(self):
        store = small_store()
        self.same(store.told(), {1: row(1, 5), 2: row(50, 1), 3: row(9, 0)})
        self.assertEqual(store.form, FORM)
        self.same(Store(Form.read("a"), {}, {}).told(), {})

    def test_told_has_ascending_fields_and_no_other_entries(self):
        store = Store(FORM, {5: {"stock": 2, "other": 7, "price": 1}}, FILTERS)
        self.same(store.told(), {5: {"price": 1, "stock": 2}})

    def test_greatest_keys_and_values(self):
        rows = {-GREATEST_KEY: row(-GREATEST_VALUE, 0), GREATEST_KEY: row(0, GREATEST_VALUE)}
        store = Store(FORM, rows, FILTERS)
        self.same(store.told(), rows)
        self.same([store.look_of(-GREATEST_KEY), store.look_of(GREATEST_KEY)], [(1, 0), (1, 1)])
        self.assertEqual(store.every().part(-GREATEST_KEY, GREATEST_KEY).numbers, (-GREATEST_KEY,))

    def test_filters_that_are_missing(self):
        self.fails(NoFilter, {"name": "cheap"}, Store, FORM, {}, {})
        self.fails(NoFilter, {"name": "dear"}, Store, FORM, {}, {"cheap": bool, "other": bool})
        self.fails(NoFilter, {"name": "many"}, Store, FORM, {}, {"cheap": bool, "dear": bool})
        form = Form.read("a:z b:y")
        self.fails(NoFilter, {"name": "y"}, Store, form, {1: {}}, {})

    def test_fields_that_are_missing(self):
        self.fails(NoField, {"field": "stock"}, Store, FORM, {2: {}, 1: {"price": 1}, 3: {"price": 1}}, FILTERS)
        self.fails(NoField, {"field": "price"}, Store, FORM, {1: row(1, 1), 3: {"price": 1}, 2: {}}, FILTERS)
        self.fails(NoField, {"field": "price"}, Store, FORM, {-1: {"stock": 1, "cheap": 1}}, FILTERS)

    def test_filters_for_other_names_mean_nothing(self):
        store = Store(Form.read("a"), {1: {"a": 1}}, {"cheap": None})
        self.same(store.look_of(1), (0,))

    def test_by_name(self):
        store = Store(form=FORM, rows={1: row(1, 1)}, filters=FILTERS, book=Book.fresh())
        self.assertEqual(store.book, Book.fresh())
        with self.assertRaises(TypeError):
            Store(FORM, {}, FILTERS, Book.fresh())

    def test_dicts_that_are_changed_later(self):
        rows, filters = {1: row(1, 5)}, dict(FILTERS)
        store = Store(FORM, rows, filters)
        rows[1]["price"] = 50
        rows[2] = row(2, 2)
        filters["many"] = lambda value: False
        filters.pop("cheap")
        self.same(store.told(), {1: row(1, 5)})
        self.same(store.look_of(1), (1, 1))
        told = store.told()
        told[1]["price"] = 60
        told.pop(1)
        self.same(store.told(), {1: row(1, 5)})

    def test_arguments_are_not_changed(self):
        rows = {2: {"stock": 1, "price": 2, "x": 3}, 1: row(3, 4)}
        store = Store(FORM, rows, FILTERS)
        store.every().update("price", lambda key, value: 0)
        store.every().wipe()
        self.same(rows, {2: {"stock": 1, "price": 2, "x": 3}, 1: row(3, 4)})


class StoreTest(Case):

    def setUp(self):
        self.store = small_store()

    def test_in_and_len(self):
        self.assertEqual(len(self.store), 3)
        self.assertEqual([key in self.store for key in (0, 1, 2, 3, 4, -1)], [False, True, True, True, False, False])
        for thing in ODD_VALUES + ["1", "", (1,), [1]]:
            self.assertFalse(thing in self.store)
        zero = Store(Form.read("a"), {0: {"a": 1}}, {})
        self.assertFalse(False in zero)
        self.assertTrue(0 in zero)

    def test_look_of(self):
        self.same([self.store.look_of(key) for key in (1, 2, 3)], [(1, 1), (2, 0), (1, 0)])
        for thing in ODD_VALUES + [0, 4, "1", (1,), [1]]:
            self.fails(NoRow, {"key": thing}, self.store.look_of, thing)
        self.store.others().remove(2)
        self.fails(NoRow, {"key": 2}, self.store.look_of, 2)
        self.same(self.store.look_of(key=1), (1, 1))

    def test_what_filters_give_counts_as_its_truth(self):
        form = Form.read("a:x,y,z")
        given = {"x": lambda value: "", "y": lambda value: [0], "z": lambda value: value}
        store = Store(form, {1: {"a": 0}, 2: {"a": 7}}, given)
        self.same([store.look_of(1), store.look_of(2)], [(2,), (6,)])

    def test_book(self):
        self.assertEqual(self.store.book, Book.usual())
        self.store.book = Book.plain()
        self.assertEqual(self.store.book, Book.plain())
        self.assertIsNone(self.store.use(Book.fresh()))
        self.assertEqual(self.store.book, Book.fresh())
        self.store.use(book=Book("early", walk="ask"))
        self.assertEqual(self.store.book["walk"], "ask")

    def test_asked_and_quiet_and_kept_are_not_to_be_assigned(self):
        for name in ("asked", "is_quiet"):
            with self.assertRaises(AttributeError):
                setattr(self.store, name, 0)

    def test_stores_are_equal_to_themselves_only(self):
        self.assertTrue(self.store == self.store)
        self.assertFalse(self.store == small_store())
        self.assertFalse(self.store.others() == self.store.others())
        self.assertFalse(self.store.every() == self.store.every())
        rows = self.store.every().walk() + self.store.every().walk()
        self.assertFalse(rows[0] == rows[3])
        question = self.store.every()
        self.assertFalse(question.listed() == question.listed())


class BuildingTest(Case):

    def setUp(self):
        self.store = small_store()

    def test_question(self):
        condition = Condition.read("cheap", FORM)
        question = self.store.question(condition)
        self.assertIsInstance(question, Question)
        self.assertEqual(question.condition, condition)
        self.same([question.is_listed, question.kept, self.store.asked], [False, None, 0])
        self.same([row.key for row in question.walk()], [1, 3])
        named = self.store.question(condition=condition, now=False)
        self.same([named.is_listed, named.kept], [False, None])

    def test_listed_question(self):
        question = self.store.question(Condition.read("cheap", FORM), now=True)
        self.same([question.is_listed, question.kept, self.store.asked], [True, (1, 3), 1])
        with self.assertRaises(TypeError):
            self.store.question(Condition.read("cheap", FORM), True)

    def test_every(self):
        question = self.store.every()
        self.assertEqual(str(question.condition), "all")
        self.same([question.is_listed, question.kept], [False, None])
        self.same(question.listed().numbers, (1, 2, 3))

    def test_where(self):
        for wishes, text, keys in (
            ({}, "all", (1, 2, 3)),
            ({"cheap": True}, "cheap", (1, 3)),
            ({"cheap": False}, "~cheap", (2,)),
            ({"many": False, "cheap": True}, "cheap & ~many", (3,)),
            ({"many": True, "cheap": True, "dear": False}, "cheap & ~dear & many", (1,)),
            ({"dear": True, "cheap": True}, "cheap & dear", ()),
        ):
            question = self.store.where(**wishes)
            self.assertEqual(question.condition, Condition.read(text, FORM))
            self.same([question.is_listed, question.kept], [False, None])
            self.same(question.listed().numbers, keys)

    def test_where_with_wrong_names(self):
        self.store.book = Book.plain()
        self.fails(NoFilter, {"name": "price"}, self.store.where, price=True)
        self.fails(NoFilter, {"name": "a"}, self.store.where, z=True, a=False, cheap=True)
        self.fails(NoFilter, {"name": "dearer"}, self.store.where, cheap=True, dearer=True, many=True, z=True)
        self.assertEqual(self.store.asked, 0)

    def test_early_books_ask_when_a_question_is_built(self):
        self.store.book = Book.plain()
        questions = [self.store.question(Condition.read("dear", FORM)), self.store.every(),
                     self.store.where(cheap=True), self.store.question(Condition.read("many", FORM), now=True)]
        self.assertEqual(self.store.asked, 4)
        self.same([question.kept for question in questions], [(2,), (1, 2, 3), (1, 3), (1,)])
        self.same([question.is_listed for question in questions], [False, False, False, True])

    def test_questions_stay_as_they_are_under_another_book(self):
        late = self.store.every()
        self.store.book = Book.plain()
        early = self.store.every()
        self.store.book = Book.fresh()
        self.same([late.kept, early.kept], [None, (1, 2, 3)])
        self.store.others().remove(2)
        self.same([late.count(), early.count(), late.kept, early.kept], [2, 2, None, (1, 2, 3)])
        self.store.book = Book.usual()
        self.same([late.count(), early.count()], [2, 3])


class QuietTest(Case):

    def setUp(self):
        self.store = small_store()
        self.others = self.store.others()

    def test_with(self):
        self.same(self.store.is_quiet, False)
        block = self.store.quiet()
        self.same(self.store.is_quiet, False)
        with block as within:
            self.assertIs(within, self.store)
            self.same(self.store.is_quiet, True)
        self.same(self.store.is_quiet, False)

    def test_with_blocks_in_one_another(self):
        with self.store.quiet():
            with self.store.quiet():
                pass
            self.same(self.store.is_quiet, True)
        self.same(self.store.is_quiet, False)

    def test_one_object_for_several_blocks(self):
        block = self.store.quiet()
        with block:
            with block:
                self.same(self.store.is_quiet, True)
            self.same(self.store.is_quiet, True)
        self.same(self.store.is_quiet, False)
        with block:
            self.same(self.store.is_quiet, True)
        self.same(self.store.is_quiet, False)

    def test_with_and_an_error(self):
        with self.assertRaises(Trouble):
            with self.store.quiet():
                with self.store.quiet():
                    raise Trouble()
        self.same(self.store.is_quiet, False)
        with self.assertRaises(Trouble):
            with self.store.quiet():
                try:
                    with self.store.quiet():
                        raise Trouble()
                finally:
                    self.same(self.store.is_quiet, True)

    def test_others_are_refused_within(self):
        told = self.store.told()
        with self.store.quiet():
            self.fails(Held, {"key": 1}, self.others.put, 1, price=1, stock=1)
            self.fails(Held, {"key": 9}, self.store.others().remove, 9)
        self.same(self.store.told(), told)
        self.assertTrue(self.others.remove(1))

    def test_own_writes_are_not_refused(self):
        thing = self.store.every().item(1)
        with self.store.quiet():
            thing["price"] = 7
            thing.save()
            thing.delete()
            self.assertEqual(self.store.where(dear=True).wipe(), 1)
            self.assertEqual(self.store.every().update("stock", lambda key, value: 8), 1)
        self.same(self.store.told(), {3: row(9, 8)})

    def test_quietly(self):
        def deed(store):
            self.assertIs(store, self.store)
            self.same(store.is_quiet, True)
            self.fails(Held, {"key": 1}, store.others().remove, 1)
            store.where(cheap=True).wipe()
            return ["told", store.told()]
        self.same(self.store.quietly(deed), ["told", {2: row(50, 1)}])
        self.same(self.store.is_quiet, False)
        self.assertIsNone(self.store.quietly(deed=lambda store: None))

    def test_quietly_and_an_error(self):
        def deed(store):
            store.where(cheap=True).wipe()
            raise Trouble()
        self.fails(Trouble, {}, self.store.quietly, deed)
        self.same(self.store.is_quiet, False)
        self.same(self.store.told(), {2: row(50, 1)})

    def test_quietly_within_quiet(self):
        with self.store.quiet():
            self.store.quietly(len)
            self.same(self.store.is_quiet, True)
            self.fails(Trouble, {}, self.store.quietly, raising)
            self.same(self.store.is_quiet, True)
        self.same(self.store.is_quiet, False)
        self.assertIs(self.store.quietly(lambda store: store.quietly(lambda inner: inner.is_quiet)), True)


class OthersMadeTest(Case):

    def test_class(self):
        self.assertIsInstance(small_store().others(), Others)


def raising(store):
    raise Trouble()
