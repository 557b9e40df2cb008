from latequestions.errors import Gone, NoField
from latequestions.forms import Form
from latequestions.stores import Row, Store
from support import GREATEST_VALUE, ODD_VALUES, Case, Trouble, row, small_store

NO_FIELDS = ODD_VALUES + ["", "cheap", "a", 0, 1, ["price"], ("price",)]


def state(thing):
    """What an object holds, what it has read, and what is touched."""
    return [{field: thing[field] for field in thing}, {field: thing.read_value(field) for field in thing},
            thing.touched]


class RowCase(Case):

    def setUp(self):
        self.store = small_store()
        self.others = self.store.others()
        self.thing = self.store.every().item(1)

    def holds(self, held, read, touched):
        self.same(state(self.thing), [held, read, touched])

    def has(self, values):
        """The store's row 1 has these values, or is not there; the other rows are as they were."""
        rows = {2: row(50, 1), 3: row(9, 0)}
        self.same(self.store.told(), rows if values is None else {1: values, **rows})


class ObjectTest(RowCase):

    def test_new_objects(self):
        self.assertIs(type(self.thing), Row)
        self.assertEqual(self.thing.key, 1)
        self.holds(row(1, 5), row(1, 5), ())
        self.same(list(self.thing), ["price", "stock"])

    def test_objects_of_different_askings(self):
        other = self.store.every().item(1)
        self.thing["price"] = 7
        self.same(state(other), [row(1, 5), row(1, 5), ()])
        self.assertFalse(self.thing == other)

    def test_set(self):
        self.thing["stock"] = 8
        self.holds(row(1, 8), row(1, 5), ("stock",))
        self.thing["price"] = -GREATEST_VALUE
        self.holds(row(-GREATEST_VALUE, 8), row(1, 5), ("price", "stock"))
        self.has(row(1, 5))

    def test_set_to_the_same_value_touches(self):
        self.thing["stock"] = 5
        self.holds(row(1, 5), row(1, 5), ("stock",))

    def test_set_back_stays_touched(self):
        self.thing["stock"] = 6
        self.thing["stock"] = 5
        self.holds(row(1, 5), row(1, 5), ("stock",))

    def test_add(self):
        self.thing["price"] += 4
        self.holds(row(5, 5), row(1, 5), ("price",))
        self.thing["stock"] += 0
        self.holds(row(5, 5), row(1, 5), ("price", "stock"))
        self.thing["price"] = GREATEST_VALUE
        self.thing["price"] += GREATEST_VALUE
        self.assertEqual(self.thing["price"], 2 * GREATEST_VALUE)
        self.has(row(1, 5))
        self.thing.save()
        self.has(row(2 * GREATEST_VALUE, 5))

    def test_change(self):
        seen = []

        def by(value):
            seen.append(value)
            return value + 10
        self.same(self.thing.change("price", by), 11)
        self.same(self.thing.change(field="price", by=by), 21)
        self.same(seen, [1, 11])
        self.holds(row(21, 5), row(1, 5), ("price",))
        self.has(row(1, 5))

    def test_change_with_a_function_that_raises(self):
        def by(value):
            raise Trouble()
        self.fails(Trouble, {}, self.thing.change, "price", by)
        self.holds(row(1, 5), row(1, 5), ())

    def test_wrong_fields(self):
        def never(value):
            raise Trouble()

        def put(thing):
            self.thing[thing] = 5

        def add(thing):
            self.thing[thing] += 5
        for thing in NO_FIELDS:
            self.fails(NoField, {"field": thing}, lambda: self.thing[thing])
            self.fails(NoField, {"field": thing}, put, thing)
            self.fails(NoField, {"field": thing}, add, thing)
            self.fails(NoField, {"field": thing}, self.thing.change, thing, never)
            self.fails(NoField, {"field": thing}, self.thing.read_value, thing)
        self.holds(row(1, 5), row(1, 5), ())

    def test_read_value(self):
        self.thing["price"] = 3
        self.same(self.thing.read_value(field="price"), 1)

    def test_touched_is_not_to_be_assigned(self):
        with self.assertRaises(AttributeError):
            self.thing.touched = ()

    def test_writes_of_others_do_not_change_objects(self):
        self.others.write(1, "price", 70)
        self.holds(row(1, 5), row(1, 5), ())
        self.others.remove(1)
        self.holds(row(1, 5), row(1, 5), ())

    def test_fields_of_objects_ascend(self):
        store = Store(Form.read("c a b"), {1: {"b": 2, "c": 3, "a": 1}}, {})
        thing = store.every().item(1)
        thing["c"] = thing["a"] = 7
        self.same([list(thing), thing.touched], [["a", "b", "c"], ("a", "c")])


class SaveTest(RowCase):

    def test_whole(self):
        self.thing["price"] = 3
        self.others.write(1, "stock", 60)
        self.others.write(1, "price", 70)
        self.assertIsNone(self.thing.save())
        self.has(row(3, 5))
        self.holds(row(3, 5), row(3, 5), ())

    def test_whole_where_the_row_is_gone(self):
        self.thing["stock"] = 6
        self.others.remove(1)
        self.thing.save()
        self.has(row(1, 6))
        self.holds(row(1, 6), row(1, 6), ())

    def test_saved_values_do_not_follow_the_object(self):
        self.thing.save()
        self.thing["price"] = 8
        self.has(row(1, 5))
        self.others.write(1, "stock", 9)
        self.holds(row(8, 5), row(1, 5), ("price",))

    def test_by_fields(self):
        self.thing["price"] = 3
        self.thing["stock"] = 4
        self.others.write(1, "stock", 60)
        self.assertIsNone(self.thing.save("price"))
        self.has(row(3, 60))
        self.holds(row(3, 4), row(3, 5), ("stock",))
        self.thing.save("stock", "price", "stock", "stock")
        self.has(row(3, 4))
        self.holds(row(3, 4), row(3, 4), ())

    def test_by_a_field_that_is_not_touched(self):
        self.thing["price"] = 3
        self.others.write(1, "stock", 60)
        self.thing.save("stock")
        self.has(row(1, 5))
        self.holds(row(3, 5), row(1, 5), ("price",))

    def test_by_fields_where_the_row_is_gone(self):
        self.thing["price"] = 3
        self.others.remove(1)
        self.fails(Gone, {"key": 1}, self.thing.save, "price")
        self.fails(Gone, {"key": 1}, self.thing.save, "price", "stock")
        self.has(None)
        self.holds(row(3, 5), row(1, 5), ("price",))

    def test_by_wrong_fields(self):
        self.thing["price"] = 3
        for thing in NO_FIELDS:
            self.fails(NoField, {"field": thing}, self.thing.save, thing)
            self.fails(NoField, {"field": thing}, self.thing.save, "price", thing, "none")
        self.has(row(1, 5))
        self.others.remove(1)
        self.fails(NoField, {"field": "none"}, self.thing.save, "price", "none", "nor")
        self.has(None)
        self.holds(row(3, 5), row(1, 5), ("price",))

    def test_touched(self):
        self.thing["stock"] = 4
        self.others.write(1, "price", 70)
        self.assertIsNone(self.thing.save_touched())
        self.has(row(70, 4))
        self.holds(row(1, 4), row(1, 4), ())

    def test_touched_where_none_is(self):
        self.others.write(1, "price", 70)
        self.assertIsNone(self.thing.save_touched())
        self.has(row(70, 5))
        self.others.remove(1)
        self.assertIsNone(self.thing.save_touched())
        self.has(None)
        self.holds(row(1, 5), row(1, 5), ())

    def test_touched_where_the_row_is_gone(self):
        self.thing["stock"] = 4
        self.others.remove(1)
        self.fails(Gone, {"key": 1}, self.thing.save_touched)
        self.has(None)
        self.holds(row(1, 4), row(1, 5), ("stock",))

    def test_touched_by_the_same_value_writes_it(self):
        self.thing["price"] = 1
        self.others.write(1, "price", 70)
        self.thing.save_touched()
        self.has(row(1, 5))


class RereadAndDeleteTest(RowCase):

    def test_reread(self):
        self.thing["price"] = 3
        self.others.write(1, "stock", 60)
        self.assertIsNone(self.thing.reread())
        self.holds(row(1, 60), row(1, 60), ())
        self.has(row(1, 60))

    def test_reread_where_the_row_is_gone(self):
        self.thing["price"] = 3
        self.others.remove(1)
        self.fails(Gone, {"key": 1}, self.thing.reread)
        self.holds(row(3, 5), row(1, 5), ("price",))
        self.has(None)

    def test_delete(self):
        self.thing["price"] = 3
        self.assertIsNone(self.thing.delete())
        self.has(None)
        self.holds(row(3, 5), row(1, 5), ("price",))
        self.fails(Gone, {"key": 1}, self.thing.delete)
        self.holds(row(3, 5), row(1, 5), ("price",))

    def test_a_row_that_is_put_back_is_the_same_row(self):
        self.thing.delete()
        self.others.put(1, price=20, stock=30)
        self.thing.reread()
        self.holds(row(20, 30), row(20, 30), ())
        self.thing["stock"] = 2
        self.others.remove(1)
        self.others.put(1, price=21, stock=31)
        self.thing.save_touched()
        self.has(row(21, 2))
        self.thing.delete()
        other = self.store.every()
        self.thing.save()
        self.same(other.item(1)["price"], 20)
        self.thing.delete()
        self.has(None)

    def test_none_of_these_is_an_asking(self):
        asked = self.store.asked
        self.thing["price"] = 2
        self.thing.save_touched()
        self.thing.save()
        self.thing.save("price")
        self.thing.reread()
        self.thing.delete()
        self.assertEqual(self.store.asked, asked)


class UpdateTest(RowCase):

    def test_update(self):
        calls = []

        def by(key, value):
            calls.append((key, value))
            return value + key
        question = self.store.where(cheap=True)
        self.same(question.update("stock", by), 2)
        self.same(calls, [(1, 5), (3, 0)])
        self.same(self.store.told(), {1: row(1, 6), 2: row(50, 1), 3: row(9, 3)})
        self.same(question.update(field="price", by=lambda key, value: 100), 2)
        self.same(question.update("price", by), 0)
        self.same(self.store.told(), {1: row(100, 6), 2: row(50, 1), 3: row(100, 3)})

    def test_update_goes_by_ascending_key(self):
        for key in (-3, 20, 0):
            self.others.put(key, price=0, stock=key)
        calls = []
        self.store.every().update("stock", lambda key, value: calls.append(key) or 0)
        self.same(calls, [-3, 0, 1, 2, 3, 20])

    def test_all_new_values_are_found_first(self):
        def by(key, value):
            if key == 3:
                raise Trouble()
            return 0
        self.fails(Trouble, {}, self.store.every().update, "price", by)
        self.has(row(1, 5))

    def test_update_that_makes_the_condition_false(self):
        question = self.store.where(cheap=True)
        self.same(question.update("price", lambda key, value: 30 if key == 1 else 5), 2)
        self.same(self.store.told(), {1: row(30, 5), 2: row(50, 1), 3: row(5, 0)})

    def test_update_looks_at_rows_and_not_at_kept_answers(self):
        question = self.store.where(cheap=True)
        kept = question.walk()
        self.others.write(1, "price", 99)
        self.others.write(2, "price", 0)
        asked = self.store.asked
        self.same(question.update("stock", lambda key, value: 77), 2)
        self.same(self.store.told(), {1: row(99, 5), 2: row(0, 77), 3: row(9, 77)})
        self.same([question.kept, self.store.asked], [(1, 3), asked])
        self.same([state(thing) for thing in kept], [[row(1, 5), row(1, 5), ()], [row(9, 0), row(9, 0), ()]])

    def test_update_without_a_kept_answer_keeps_none(self):
        question = self.store.every()
        asked = self.store.asked
        question.update("stock", lambda key, value: 77)
        question.wipe()
        self.same([question.kept, self.store.asked], [None, asked])

    def test_update_of_wrong_fields(self):
        def by(key, value):
            raise Trouble()
        for thing in NO_FIELDS:
            self.fails(NoField, {"field": thing}, self.store.every().update, thing, by)
        self.has(row(1, 5))

    def test_wipe(self):
        question = self.store.where(cheap=True)
        kept = question.walk()
        self.others.write(1, "price", 30)
        self.others.put(4, price=2, stock=2)
        asked = self.store.asked
        self.same(question.wipe(), 2)
        self.same(self.store.told(), {1: row(30, 5), 2: row(50, 1)})
        self.same([question.kept, self.store.asked], [(1, 3), asked])
        self.same([thing.key for thing in kept], [1, 3])
        self.same(question.wipe(), 0)
        self.same(self.store.every().wipe(), 2)
        self.same(self.store.told(), {})

    def test_wipe_of_a_listed_question_takes_the_rows_of_this_moment(self):
        question = self.store.question(self.store.where(cheap=True).condition, now=True)
        self.others.write(2, "price", 0)
        self.others.write(1, "price", 30)
        self.same(question.update("stock", lambda key, value: 9), 2)
        self.same(question.wipe(), 2)
        self.same(self.store.told(), {1: row(30, 5)})
        self.same(question.kept, (1, 3))
