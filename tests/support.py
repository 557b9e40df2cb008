"""What the tests share: sample values, a small store, and a check of errors with their fields."""

import unittest

from latequestions.forms import Form
from latequestions.stores import Store

# Any values (point 2) that are neither strings nor integers nor tuples of integers.
ODD_VALUES = [None, True, False, [], ["a"], [1], (), ("a",), (True,), (False, 0), [[[1]], "a"], ((0,), None)]

GREATEST_KEY = 10 ** 30
GREATEST_VALUE = 10 ** 40

FORM = Form.read("price:cheap,dear stock:many")
FILTERS = {
    "cheap": lambda value: value < 10,
    "dear": lambda value: value > 40,
    "many": lambda value: value >= 5,
}


def row(price, stock):
    return {"price": price, "stock": stock}


def small_store(book=None):
    """Rows 1 (cheap, many), 2 (dear), 3 (cheap)."""
    return Store(FORM, {3: row(9, 0), 1: row(1, 5), 2: row(50, 1)}, FILTERS, book=book)


class Trouble(Exception):
    """Raised by functions that the tests pass."""


class Case(unittest.TestCase):

    def fails(self, error, fields, call, *args, **named):
        """The call raises just this error, with these fields; True is not 1 in them."""
        with self.assertRaises(error) as caught:
            call(*args, **named)
        self.assertIs(type(caught.exception), error)
        self.assertEqual(repr(vars(caught.exception)), repr(fields))

    def same(self, one, other):
        """Equal, also in True against 1, in tuples against lists, and in the order of dicts."""
        self.assertEqual(repr(one), repr(other))
