"""Stores of rows, questions to them, and the objects that answers are made of."""

from latequestions.answers import cut, found
from latequestions.books import Book
from latequestions.deeds import is_deed_of
from latequestions.errors import BadDeed, NoField
from latequestions.forms import Condition, filter_condition
from latequestions.kinds import is_integer
from latequestions.tables import Hush, Table, must_have_fields


class Row:
    """An object of a row, made by an asking. It is changed by itself, and written to its store when it is saved."""

    def __init__(self, table, key):
        self.table = table
        self.key = key
        self.fields = table.form.fields
        self.held = {}
        self.seen = {}
        self.marked = {}
        self.take_over()

    def __getitem__(self, at):
        if at not in self.table.form:
            raise NoField(at)
        return self.held[at]

    def __setitem__(self, at, worth):
        if at not in self.table.form:
            raise NoField(at)
        self.held[at] = worth
        self.marked[at] = True

    def __iter__(self):
        return iter(self.fields)

    def change(self, field, by):
        """Sets a field to what `by` gives for the value that it holds, and returns the new value."""
        value = by(self[field])
        self[field] = value
        return value

    def read_value(self, field):
        """The value of a field that the object has read."""
        if field not in self.table.form:
            raise NoField(field)
        return self.seen[field]

    @property
    def touched(self):
        return tuple([field for field in self.fields if self.marked[field]])

    def save(self, *fields):
        """Saves the object by these fields, or whole if there are none."""
        for field in fields:
            if field not in self.table.form:
                raise NoField(field)
        if len(fields) > 0:
            self.save_by(fields)
        else:
            self.table.put_row(self.key, self.held)
            self.settle(self.fields)

    def save_touched(self):
        """Saves the object by its touched fields; without any, not even a missing row matters."""
        fields = self.touched
        if len(fields) > 0:
            self.save_by(fields)

    def save_by(self, fields):
        self.table.must_have_row(self.key)
        for field in fields:
            self.table.rows[self.key][field] = self.held[field]
        self.settle(fields)

    def settle(self, fields):
        """Fields that are saved are read as held, and not touched."""
        for field in fields:
            self.seen[field] = self.held[field]
            self.marked[field] = False

    def reread(self):
        """Takes over the values of the store's row."""
        self.table.must_have_row(self.key)
        self.take_over()

    def take_over(self):
        for field in self.fields:
            self.held[field] = self.table.rows[self.key][field]
        self.settle(self.fields)

    def delete(self):
        """Deletes the store's row; the object stays as it is."""
        self.table.must_have_row(self.key)
        self.table.drop_row(self.key)


class Looks:
    """The nine looks. What they give is the same for questions and listings; how they take their answer is not."""

    def walk(self):
        """The objects of the answer, one after another."""
        raise NotImplementedError("walk")

    def listed(self):
        """A listing of all objects."""
        raise NotImplementedError("listed")

    def size(self):
        """The number of objects, by the look `len`."""
        raise NotImplementedError("size")

    def truth(self):
        """Whether there are any objects."""
        raise NotImplementedError("truth")

    def count(self):
        """The number of objects."""
        raise NotImplementedError("count")

    def is_any(self):
        """Whether there are any objects, by the look `any`."""
        raise NotImplementedError("is_any")

    def has(self, key):
        """Whether an object of this key is there."""
        raise NotImplementedError("has")

    def item(self, key):
        """The object of this key, or None."""
        raise NotImplementedError("item")

    def part(self, low, high):
        """A listing of the objects whose keys are at least low and less than high."""
        raise NotImplementedError("part")


class Listing(Looks):
    """A list of objects by ascending key: all looks take these objects."""

    def __init__(self, rows):
        self.rows = tuple(rows)
        self.numbers = tuple([row.key for row in self.rows])

    def __len__(self):
        return len(self.rows)

    def __contains__(self, x):
        return is_integer(x) and x in self.numbers

    def __iter__(self):
        return iter(self.rows)

    def walk(self):
        return list(self.rows)

    def listed(self):
        return Listing(self.rows)

    def size(self):
        return len(self.rows)

    def truth(self):
        return len(self.rows) > 0

    def count(self):
        return len(self.rows)

    def is_any(self):
        return len(self.rows) > 0

    def has(self, key):
        return found(self.rows, key) is not None

    def item(self, key):
        return found(self.rows, key)

    def part(self, low, high):
        return Listing(cut(self.rows, low, high))


class Question(Looks):
    """A condition on the rows of a store, and perhaps an answer that was kept. Made by stores."""

    def __init__(self, table, condition, is_listed):
        self.table = table
        self.condition = condition
        self.is_listed = is_listed
        self.answer = None
        if is_listed or table.going_by.built == "early":
            self.answer = asked_rows(table, condition)

    @property
    def kept(self):
        return None if self.answer is None else tuple([row.key for row in self.answer])

    def taken(self, look):
        """The answer that a look takes, as the store's book says now."""
        if self.is_listed:
            return self.answer
        way = self.table.going_by[look]
        if self.answer is not None and way != "anew":
            return self.answer
        rows = asked_rows(self.table, self.condition)
        if way == "keep":
            self.answer = rows
        return rows

    def walk(self):
        return list(self.taken("walk"))

    def listed(self):
        return Listing(self.taken("list"))

    def size(self):
        return len(self.taken("len"))

    def truth(self):
        return len(self.taken("truth")) > 0

    def count(self):
        return len(self.taken("count"))

    def is_any(self):
        return len(self.taken("any")) > 0

    def has(self, key):
        return found(self.taken("has"), key) is not None

    def item(self, key):
        return found(self.taken("item"), key)

    def part(self, low, high):
        return Listing(cut(self.taken("part"), low, high))

    def update(self, field, by):
        """Gives the field of each row that the condition takes now the value `by(key, value)`."""
        if field not in self.table.form:
            raise NoField(field)
        # All new values come before the first write: if `by` raises, nothing is changed.
        rows = self.table.rows
        news = [(key, by(key, rows[key][field])) for key in self.table.taken_keys(self.condition)]
        for key, value in news:
            rows[key][field] = value
        return len(news)

    def wipe(self):
        """Deletes the rows that the condition takes now."""
        gone = self.table.taken_keys(self.condition)
        for key in gone:
            self.table.drop_row(key)
        return len(gone)


class Others:
    """Other sessions that write to the same store. Made by stores."""

    def __init__(self, table):
        self.table = table

    def put(self, key, **values):
        """Puts a row with all its values, whether or not it is there."""
        self.table.must_let_others(key)
        must_have_fields(values, self.table.form)
        for keyword in sorted(values):
            if keyword not in self.table.form:
                raise NoField(keyword)
        self.table.put_row(key, values)
        return True

    def write(self, key, field, value):
        """Writes one field of a row, if the row is there."""
        self.table.must_let_others(key)
        if field not in self.table.form:
            raise NoField(field)
        if not self.table.has_row(key):
            return False
        self.table.rows[key][field] = value
        return True

    def remove(self, key):
        """Removes a row, if it is there."""
        self.table.must_let_others(key)
        if not self.table.has_row(key):
            return False
        self.table.drop_row(key)
        return True

    def do(self, deed):
        """Does a deed that is written as a tuple."""
        self.must_let_do(deed)
        kind, key, *rest = deed
        if kind == "put":
            values = dict(zip(self.table.form.fields, rest[0]))
            return self.put(key, **values)
        if kind == "write":
            return self.write(key, rest[0], rest[1])
        return self.remove(key)

    def must_let_do(self, deed):
        """Raises what `do` raises for a deed, any value, but does nothing."""
        if not is_deed_of(self.table.form, deed):
            raise BadDeed(deed)
        self.table.must_let_others(deed[1])


class Store:
    """The rows of a form, which this session and others read and write."""

    def __init__(self, form, rows, filters, *, book=None):
        self.form = form
        self.table = Table(form, rows, filters, Book.usual() if book is None else book)

    def told(self):
        """A dict from keys to dicts from fields to values."""
        rows = self.table.rows
        return {key: dict(rows[key]) for key in sorted(rows)}

    def __contains__(self, x):
        return self.table.has_row(x)

    def __len__(self):
        return len(self.table.rows)

    def look_of(self, key):
        """The look of a row."""
        return self.table.row_look(key)

    @property
    def asked(self):
        return self.table.ask_count

    @property
    def is_quiet(self):
        return self.table.hushed

    @property
    def book(self):
        return self.table.going_by

    @book.setter
    def book(self, value):
        self.table.going_by = value

    def use(self, book):
        """Goes by this book from now on."""
        self.table.going_by = book

    def question(self, condition, *, now=False):
        """Builds a question, a listed one if now is True."""
        return Question(self.table, condition, now is True)

    def every(self):
        """Builds a question that takes every row."""
        return self.where()

    def where(self, **wishes):
        """Builds a question that takes the rows in which each filter holds, or not, as its keyword says."""
        condition = Condition.of(self.form, self.form.possible)
        for name in sorted(wishes):
            holding = filter_condition(name, self.form)
            condition = condition & (holding if wishes[name] else ~holding)
        return self.question(condition)

    def others(self):
        """The other sessions, to write as they do."""
        return Others(self.table)

    def quiet(self):
        """An object for `with`: within the block the store is quiet."""
        return Hush(self, self.table)

    def quietly(self, deed):
        """What `deed(store)` returns, called while the store is quiet."""
        before = self.table.hushed
        self.table.hushed = True
        try:
            return deed(self)
        finally:
            self.table.hushed = before


def asked_rows(table, condition):
    """Asks: new objects of the rows that a condition takes now. Counted last, for a filter may raise."""
    rows = tuple([Row(table, key) for key in table.taken_keys(condition)])
    table.ask_count += 1
    return rows
