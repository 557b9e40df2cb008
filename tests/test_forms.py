import inspect

from latequestions.errors import BadForm, NoField, NoFilter, NoLook
from latequestions.forms import Condition, Form
from support import ODD_VALUES, Case

RESERVED = (
    "all anew any ask by cls count delete early either end for fresh has in item keep key late len list now or others"
    " part quiet repeat reread save self show touched truth update walk wipe"
).split()


class ReadFormTest(Case):

    def test_text_is_canonical(self):
        for text, canonical in (
            ("a", "a"),
            ("c b a", "a b c"),
            ("price:cheap,dear stock", "price:cheap,dear stock"),
            ("stock price:dear,cheap", "price:cheap,dear stock"),
            ("b:z a:y c:x", "a:y b:z c:x"),
            ("b:z,y,x a", "a b:x,y,z"),
            ("abcdefgh:ijklmnop", "abcdefgh:ijklmnop"),
        ):
            self.assertEqual(str(Form.read(text)), canonical)

    def test_wrong_texts(self):
        for text in (
            "", " ", "a ", " a", "a  b", "a:", ":", ":a", "a:b,", "a:,b", "a:b,,c", "a: b", "a :b", "a:b c:",
            "a:b:c", "a,b", "A", "a1", "a_b", "a-b", "a.b", "a\nb", "abcdefghi", "a:abcdefghi", "a b c d",
            "a:w,x,y,z", "a:w,x b:y,z", "a a", "a:a", "a:b b", "a:b,b", "a:b c:b", "a:x x:y",
        ):
            self.fails(BadForm, {"thing": text}, Form.read, text)

    def test_reserved_words_are_no_names(self):
        self.assertEqual(len(RESERVED), 36)
        for word in RESERVED:
            self.fails(BadForm, {"thing": word}, Form.read, word)
            self.fails(BadForm, {"thing": f"a:{word}"}, Form.read, f"a:{word}")
            self.assertEqual(str(Form.read(word + "x")), word + "x")

    def test_what_is_no_string(self):
        for thing in ODD_VALUES + [0, 1, ["a"], ("a",)]:
            self.fails(BadForm, {"thing": thing}, Form.read, thing)

    def test_by_name(self):
        self.assertEqual(Form.read(text="a:b"), Form.read("a:b"))


class FormOfTest(Case):

    def test_fields_and_filters_in_any_order(self):
        self.assertEqual(str(Form.of(stock=(), price=["dear", "cheap"])), "price:cheap,dear stock")
        self.assertEqual(Form.of(a=[]), Form.read("a"))
        self.assertEqual(Form.of(b=("y", "x", "w"), a=[], c=()), Form.read("a b:w,x,y c"))

    def test_no_such_form(self):
        for fields in (
            {}, {"a": [], "b": [], "c": [], "d": []}, {"a": ["w", "x", "y", "z"]}, {"a": ["b"], "b": []},
            {"a": ["a"]}, {"a": ["b", "b"]}, {"a": ["b"], "c": ["b"]}, {"all": []}, {"self": []}, {"A": []},
            {"abcdefghi": []}, {"a_b": []}, {"a b": []}, {"": []}, {"a": [""]}, {"a": ["now"]}, {"a": ["x,y"]},
        ):
            self.fails(BadForm, {"thing": None}, lambda: Form.of(**fields))

    def test_filters_of_any_values(self):
        for thing in ODD_VALUES + [0, 1, "B", "b c", [["b"]], ("b",)]:
            self.fails(BadForm, {"thing": None}, Form.of, a=[thing])
            self.fails(BadForm, {"thing": None}, Form.of, a=("b", thing))

    def test_copies_its_lists(self):
        names = ["x"]
        form = Form.of(a=names)
        names.append("y")
        self.assertEqual(str(form), "a:x")
        self.assertEqual(form.filters_of("a"), ("x",))


class FormTest(Case):

    def setUp(self):
        self.form = Form.read("b:z,y a:m c")

    def test_class_values(self):
        self.assertEqual((Form.MOST_FIELDS, Form.MOST_FILTERS), (3, 3))

    def test_fields_and_len(self):
        self.same(self.form.fields, ("a", "b", "c"))
        self.assertEqual(len(self.form), 3)
        self.assertEqual(len(Form.read("x:a,b,c")), 1)

    def test_equal_to_forms_of_equal_text_only(self):
        self.assertTrue(self.form == Form.read("a:m b:y,z c"))
        self.assertFalse(self.form != Form.read("a:m b:y,z c"))
        for other in (Form.read("a:m b:y c"), Form.read("a:m b:y,z d"), Form.read("a b:m,y,z c"), str(self.form), None,
                      ("a", "b", "c"), Condition.of(self.form, [])):
            self.assertTrue(self.form != other)
            self.assertFalse(self.form == other)

    def test_in(self):
        for field in ("a", "b", "c"):
            self.assertTrue(field in self.form)
        for thing in ODD_VALUES + ["m", "y", "d", "", "a b", 0, 1]:
            self.assertFalse(thing in self.form)

    def test_filters_of(self):
        self.same(self.form.filters_of(), ("m", "y", "z"))
        self.same(self.form.filters_of(None), ("m", "y", "z"))
        self.same(self.form.filters_of("b"), ("y", "z"))
        self.same(self.form.filters_of(field="c"), ())
        self.same(Form.read("a:z b:y c:x").filters_of(), ("x", "y", "z"))
        self.same(Form.read("a").filters_of(), ())
        for thing in [thing for thing in ODD_VALUES if thing is not None] + ["m", "d", "", 0]:
            self.fails(NoField, {"field": thing}, self.form.filters_of, thing)

    def test_field_of(self):
        self.assertEqual([self.form.field_of(name) for name in ("m", "y", "z")], ["a", "b", "b"])
        for thing in ODD_VALUES + ["a", "x", "", 0]:
            self.fails(NoFilter, {"name": thing}, self.form.field_of, thing)

    def test_mask_count(self):
        self.assertEqual([self.form.mask_count(field) for field in ("a", "b", "c")], [2, 4, 1])
        self.assertEqual(Form.read("a:x,y,z").mask_count("a"), 8)
        for thing in ODD_VALUES + ["m", "d", "", 0]:
            self.fails(NoField, {"field": thing}, self.form.mask_count, thing)

    def test_all_looks(self):
        self.same(list(Form.read("price:cheap,dear stock").all_looks()), [(0, 0), (1, 0), (2, 0), (3, 0)])
        self.same(list(Form.read("a").all_looks()), [(0,)])
        self.same(list(Form.read("a:x,y,z").all_looks()), [(mask,) for mask in range(8)])
        self.same(
            list(self.form.all_looks()),
            [(a, b, 0) for a in range(2) for b in range(4)],
        )
        self.assertTrue(inspect.isgenerator(self.form.all_looks()))

    def test_holds(self):
        for look in self.form.all_looks():
            self.same(self.form.holds("m", look), look[0] == 1)
            self.same(self.form.holds("y", look), look[1] in (1, 3))
            self.same(self.form.holds("z", look), look[1] in (2, 3))
        form = Form.read("a:x,y,z")
        self.same([form.holds("z", (mask,)) for mask in range(8)], [False] * 4 + [True] * 4)

    def test_holds_of_wrong_names_and_looks(self):
        for thing in ODD_VALUES + ["a", "x", "", 0]:
            self.fails(NoFilter, {"name": thing}, self.form.holds, thing, (0, 0, 0))
            self.fails(NoFilter, {"name": thing}, self.form.holds, thing, "no look")
        for thing in ODD_VALUES + [
            0, "", "000", (0, 0), (0, 0, 0, 0), (2, 0, 0), (0, 4, 0), (0, 0, 1), (-1, 0, 0), [0, 0, 0], (True, 0, 0),
            (0, 0, False), ("0", 0, 0), (None, 0, 0), ((0,), 0, 0), ((0, 0, 0),),
        ]:
            self.fails(NoLook, {"look": thing}, self.form.holds, "m", thing)

    def test_holds_by_name(self):
        self.same(self.form.holds(name="y", look=(0, 1, 0)), True)
