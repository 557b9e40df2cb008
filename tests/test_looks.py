from latequestions.books import Book
from latequestions.forms import Condition
from latequestions.stores import Listing, Looks, Question, Row, Store
from support import FORM, GREATEST_KEY, ODD_VALUES, Case, Trouble, row, small_store

LOOKS = ("walk", "list", "len", "truth", "count", "any", "has", "item", "part")
CALLS = {
    "walk": lambda thing: thing.walk(),
    "list": lambda thing: thing.listed(),
    "len": lambda thing: thing.size(),
    "truth": lambda thing: thing.truth(),
    "count": lambda thing: thing.count(),
    "any": lambda thing: thing.is_any(),
    "has": lambda thing: thing.has(1),
    "item": lambda thing: thing.item(1),
    "part": lambda thing: thing.part(1, 3),
}
METHODS = ("walk", "listed", "size", "truth", "count", "is_any", "has", "item", "part")


def told(thing):
    """What a look gave, with the keys of objects instead of these."""
    if isinstance(thing, Row):
        return thing.key
    if isinstance(thing, Listing):
        return thing.numbers
    return [one.key for one in thing] if isinstance(thing, list) else thing


class GivenTest(Case):
    """Point 8, for questions and for listings."""

    def both(self, **wishes):
        question = small_store().where(**wishes)
        return [question, question.listed(), small_store().where(**wishes).part(-9, 9)]

    def test_classes(self):
        self.assertEqual((Question.__bases__, Listing.__bases__), ((Looks,), (Looks,)))
        for kind in (Looks, Question, Listing):
            for name in METHODS:
                self.assertIn(name, vars(kind))

    def test_of_two_objects(self):
        for thing in self.both(cheap=True):
            self.same([told(CALLS[look](thing)) for look in LOOKS],
                      [[1, 3], (1, 3), 2, True, 2, True, True, 1, (1,)])
            self.assertIs(type(thing.walk()), list)
            self.assertIs(type(thing.listed()), Listing)
            self.assertIs(type(thing.part(0, 0)), Listing)

    def test_of_one_object(self):
        for thing in self.both(dear=True):
            self.same([told(CALLS[look](thing)) for look in LOOKS],
                      [[2], (2,), 1, True, 1, True, False, None, (2,)])

    def test_the_base_takes_no_answer(self):
        for look in LOOKS:
            with self.assertRaises(NotImplementedError):
                CALLS[look](Looks())

    def test_of_nothing(self):
        for thing in self.both(cheap=True, dear=True):
            self.same([told(CALLS[look](thing)) for look in LOOKS],
                      [[], (), 0, False, 0, False, False, None, ()])

    def test_has_and_item(self):
        for thing in self.both(cheap=True):
            self.same([thing.has(key) for key in (0, 1, 2, 3, 4)], [False, True, False, True, False])
            self.same([told(thing.item(key)) for key in (0, 1, 2, 3, 4)], [None, 1, None, 3, None])
            self.same(told(thing.item(key=3)), 3)
            self.same(thing.has(key=3), True)
            for key in ODD_VALUES + ["1", "", (1,), [1], GREATEST_KEY, -GREATEST_KEY]:
                self.same(thing.has(key), False)
                self.same(thing.item(key), None)

    def test_false_is_not_the_key_0(self):
        store = small_store()
        store.others().put(0, price=1, stock=1)
        question = store.every()
        for thing in (question, question.listed()):
            self.same([thing.has(0), thing.has(False), thing.item(False)], [True, False, None])
        self.same([0 in question.listed(), False in question.listed()], [True, False])

    def test_part(self):
        for thing in self.both():
            for low, high, keys in (
                (1, 3, (1, 2)), (1, 4, (1, 2, 3)), (2, 3, (2,)), (2, 2, ()), (3, 1, ()), (-5, 1, ()), (4, 9, ()),
                (-GREATEST_KEY, GREATEST_KEY, (1, 2, 3)),
            ):
                self.same(thing.part(low, high).numbers, keys)
            self.same(thing.part(low=3, high=4).numbers, (3,))

    def test_the_same_objects(self):
        question = small_store().every()
        one, two, three = question.walk()
        for thing in (question, question.listed(), question.part(1, 4), question.listed().part(0, 9).listed()):
            self.assertEqual([other is mine for other, mine in zip(thing.walk(), (one, two, three))], [True] * 3)
            self.assertIs(thing.item(2), two)
            self.assertIs(thing.listed().item(1), one)
            self.assertIs(thing.part(3, 4).walk()[0], three)

    def test_each_returned_list_is_new(self):
        for thing in self.both():
            thing.walk().clear()
            thing.walk().append(None)
            self.same(told(thing.walk()), [1, 2, 3])


class ListingTest(Case):

    def setUp(self):
        self.store = small_store()
        self.listing = self.store.every().listed()

    def test_numbers_len_in_and_iterating(self):
        self.same(self.listing.numbers, (1, 2, 3))
        self.assertEqual([len(self.listing), len(self.listing.part(5, 6))], [3, 0])
        self.assertEqual([key in self.listing for key in (0, 1, 3, 4)], [False, True, True, False])
        for thing in ODD_VALUES + ["1", "", (1,), [1]]:
            self.assertFalse(thing in self.listing)
        self.assertEqual([one is other for one, other in zip(self.listing, self.listing.walk())], [True] * 3)
        self.same([one.key for one in self.listing], [1, 2, 3])

    def test_looks_at_a_listing_never_ask(self):
        for book in (Book.usual(), Book.plain(), Book.fresh()):
            self.store.book = book
            self.store.others().remove(1)
            for look in LOOKS:
                CALLS[look](self.listing)
            self.assertEqual(self.store.asked, 1)
            self.same(self.listing.numbers, (1, 2, 3))
            self.same(told(self.listing.walk()), [1, 2, 3])


class WayTest(Case):
    """Point 7: what a look of each way does to a question that has kept nothing, or something."""

    def store_with(self, look, way, built="late"):
        return small_store(Book(built, **{look: way}))

    def test_keep(self):
        for look in LOOKS:
            store = self.store_with(look, "keep")
            question = store.where(cheap=True)
            self.same([question.kept, store.asked], [None, 0])
            CALLS[look](question)
            self.same([look, question.kept, store.asked], [look, (1, 3), 1])
            store.others().remove(1)
            store.others().put(2, price=1, stock=1)
            CALLS[look](question)
            self.same([question.kept, store.asked], [(1, 3), 1])

    def test_ask_without_a_kept_answer(self):
        for look in LOOKS:
            store = self.store_with(look, "ask")
            question = store.where(cheap=True)
            CALLS[look](question)
            self.same([look, question.kept, store.asked], [look, None, 1])
            CALLS[look](question)
            self.same([look, question.kept, store.asked], [look, None, 2])

    def test_ask_with_a_kept_answer(self):
        for look in LOOKS:
            store = self.store_with(look, "ask", "early")
            question = store.where(cheap=True)
            before = told(CALLS[look](question))
            store.others().remove(1)
            self.same(told(CALLS[look](question)), before)
            self.same([look, question.kept, store.asked], [look, (1, 3), 1])

    def test_anew(self):
        for look in LOOKS:
            for built, kept in (("late", None), ("early", (1, 3))):
                store = self.store_with(look, "anew", built)
                question = store.where(cheap=True)
                self.same([question.kept, store.asked], [kept, 0 if built == "late" else 1])
                store.others().remove(1)
                store.others().remove(3)
                expected = told(CALLS[look](store.where(cheap=True)))
                for time in (1, 2):
                    asked = store.asked
                    self.same([look, told(CALLS[look](question))], [look, expected])
                    self.same([look, question.kept, store.asked], [look, kept, asked + 1])

    def test_anew_makes_new_objects_and_leaves_the_kept_ones(self):
        store = small_store(Book(item="anew"))
        question = store.every()
        kept = question.walk()[0]
        self.assertIsNot(question.item(1), kept)
        self.assertIsNot(question.item(1), question.item(1))
        self.assertIs(question.walk()[0], kept)

    def test_listed_questions_ask_once_under_any_book(self):
        for book in (Book.usual(), Book.plain(), Book.fresh()):
            store = small_store(book)
            question = store.question(Condition.read("cheap", FORM), now=True)
            self.same([question.kept, store.asked], [(1, 3), 1])
            first = question.walk()[0]
            store.every().wipe()
            store.others().put(2, price=1, stock=1)
            asked = store.asked
            for look in LOOKS:
                self.same(told(CALLS[look](question)),
                          {"walk": [1, 3], "list": (1, 3), "len": 2, "truth": True, "count": 2, "any": True,
                           "has": True, "item": 1, "part": (1,)}[look])
            self.assertIs(question.item(1), first)
            self.assertIs(question.walk()[0], first)
            self.same([question.kept, store.asked], [(1, 3), asked])

    def test_the_usual_book(self):
        store = small_store()
        question = store.every()
        self.same([question.count(), question.is_any(), question.has(9), question.item(9), store.asked],
                  [3, True, False, None, 4])
        self.assertIsNot(question.item(1), question.item(1))
        self.same([len(question.part(0, 9)), question.kept, store.asked], [3, None, 7])
        self.same([question.size(), question.kept, store.asked], [3, (1, 2, 3), 8])
        for look in LOOKS:
            CALLS[look](question)
        self.same(store.asked, 8)

    def test_the_moment_of_an_asking(self):
        store = small_store()
        question = store.where(cheap=True)
        store.others().write(2, "price", 2)
        self.same(question.count(), 3)
        store.others().remove(1)
        self.same(told(question.walk()), [2, 3])
        store.others().put(1, price=1, stock=1)
        self.same([question.count(), question.kept], [2, (2, 3)])

    def test_looks_take_an_answer_for_keys_that_are_none(self):
        for look in ("has", "item"):
            for key in ODD_VALUES:
                store = self.store_with(look, "keep")
                question = store.every()
                question.has(key) if look == "has" else question.item(key)
                self.same([question.kept, store.asked], [(1, 2, 3), 1])

    def test_kept_answers_do_not_change(self):
        store = small_store()
        question = store.where(cheap=True)
        first, second = question.walk()
        question.update("price", lambda key, value: 100)
        self.same([question.kept, told(question.walk())], [(1, 3), [1, 3]])
        self.same([first["price"], second["price"]], [1, 9])
        store.where().wipe()
        self.same([question.size(), question.truth()], [2, True])
        self.assertIs(question.walk()[0], first)

    def test_questions_do_not_share_answers(self):
        store = small_store()
        one, other = store.every(), store.every()
        one.walk()
        self.same([one.kept, other.kept], [(1, 2, 3), None])
        self.assertIsNot(one.walk()[0], other.walk()[0])
        self.assertEqual(store.asked, 2)

    def test_kept_is_a_tuple_of_keys(self):
        store = small_store()
        store.others().put(-GREATEST_KEY, price=1, stock=1)
        question = store.every()
        question.truth()
        self.same(question.kept, (-GREATEST_KEY, 1, 2, 3))
        self.assertEqual(small_store(Book.plain()).where(cheap=True, dear=True).kept, ())


class RaisingFilterTest(Case):
    """What a filter raises goes on to the caller, and nothing is changed."""

    def setUp(self):
        self.calm = True

        def holds(value):
            if not self.calm:
                raise Trouble()
            return True
        self.store = Store(FORM, {1: row(1, 1)}, {"cheap": holds, "dear": holds, "many": holds})

    def test_looks(self):
        for way in ("keep", "ask", "anew"):
            for look in LOOKS:
                self.store.book = Book(**{look: way})
                question = self.store.every()
                asked = self.store.asked
                self.calm = False
                self.fails(Trouble, {}, CALLS[look], question)
                self.same([question.kept, self.store.asked], [None, asked])
                self.calm = True

    def test_building(self):
        self.calm = False
        self.fails(Trouble, {}, self.store.question, Condition.read("all", FORM), now=True)
        self.store.book = Book.plain()
        self.fails(Trouble, {}, self.store.every)
        self.fails(Trouble, {}, self.store.where, cheap=True)
        self.assertEqual(self.store.asked, 0)

    def test_writes(self):
        question = self.store.every()
        self.calm = False
        self.fails(Trouble, {}, question.update, "price", lambda key, value: 7)
        self.fails(Trouble, {}, question.wipe)
        self.fails(Trouble, {}, self.store.look_of, 1)
        self.same(self.store.told(), {1: row(1, 1)})
