"""What a store has: its rows and filters, the book it goes by, and whether it is quiet."""

from latequestions.errors import Gone, Held, NoField, NoFilter, NoRow
from latequestions.kinds import is_integer


class Table:
    """The contents of a store, which its questions, its objects and others share."""

    def __init__(self, form, rows, filters, book):
        for name in form.filters_of():
            if name not in filters:
                raise NoFilter(name)
        for key in sorted(rows):
            must_have_fields(rows[key], form)
        self.form = form
        self.filters = {name: filters[name] for name in form.filters_of()}
        self.rows = {key: {field: rows[key][field] for field in form.fields} for key in rows}
        self.going_by = book
        self.ask_count = 0
        self.hushed = False

    def put_row(self, key, values):
        self.rows[key] = {field: values[field] for field in self.form.fields}

    def drop_row(self, key):
        del self.rows[key]

    def has_row(self, key):
        """Whether there is a row of a key, any value; True is not the key 1."""
        return is_integer(key) and key in self.rows

    def must_have_row(self, key):
        if not self.has_row(key):
            raise Gone(key)

    def must_let_others(self, key):
        if self.hushed:
            raise Held(key)

    def row_look(self, key):
        """The look of a row."""
        if not self.has_row(key):
            raise NoRow(key)
        row = self.rows[key]
        return tuple([self.mask_of(field, row[field]) for field in self.form.fields])

    def mask_of(self, field, value):
        mask = 0
        number = 1
        for name in self.form.filters_of(field):
            test = self.filters[name]
            if test(value):
                mask += number
            number = number * 2
        return mask

    def taken_keys(self, condition):
        """The keys of the rows that a condition takes now, ascending."""
        return [key for key in sorted(self.rows) if self.row_look(key) in condition.looks]


class Before:
    """Whether a store was quiet before a block, and what was remembered for the blocks around it."""

    def __init__(self, hushed, outer):
        self.hushed = hushed
        self.outer = outer


class Hush:
    """For `with`: the store is quiet within the block. Blocks with one Hush may stand in one another."""

    def __init__(self, store, table):
        self.store = store
        self.table = table
        self.before = None

    def __enter__(self):
        self.before = Before(self.table.hushed, self.before)
        self.table.hushed = True
        return self.store

    def __exit__(self, kind, value, trace):
        self.table.hushed = self.before.hushed
        self.before = self.before.outer


def must_have_fields(values, form):
    for field in form.fields:
        if field not in values:
            raise NoField(field)
