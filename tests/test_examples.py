"""The examples of point 28, as they stand in the document."""

import doctest
import unittest

from latequestions.books import Book
from latequestions.forms import Form
from latequestions.judging import judge
from latequestions.programs import Program
from latequestions.runs import Outside
from latequestions.twins import Twin
from latequestions.worlds import Worlds

EXAMPLES = """
>>> form = Form.read("price stock")
>>> program = Program(["q = all", "others", "x = q[?]", "x.stock = ?", "save x"], form)
>>> verdict = judge(program, Book.usual(), Book.plain())
>>> [bool(verdict), len(verdict)]
[False, 6]

>>> program = Program(["q = f", "others", "x = q[?]", "x.b = ?", "save x"], Form.read("a:f b"))
>>> len(Worlds(program, Book.usual(), Book.plain()))
80

>>> program = Program(["q = all", "x = q[?]"], Form.read("a"))
>>> twin = Twin(program, {7: {"a": 5}}, {}, Book.usual(), Book.plain(), Outside([], [7]))
>>> twin.step()
>>> twin.step()
>>> twin.world_of(7)
(2, ((0,), (('q', 'unasked'), ('x', 0)), (((0, 0),),)), ((0,), (('q', 0), ('x', 0)), (((0, 0),),)), ((0,),))
"""


class ExamplesTest(unittest.TestCase):

    def test_examples(self):
        names = {"Book": Book, "Form": Form, "Outside": Outside, "Program": Program, "Twin": Twin, "Worlds": Worlds,
                 "judge": judge}
        test = doctest.DocTestParser().get_doctest(EXAMPLES, names, "examples", None, 0)
        result = doctest.DocTestRunner().run(test)
        self.assertEqual([result.attempted, result.failed], [11, 0])
