import random

from latequestions.errors import BadCondition, NoLook
from latequestions.forms import Condition, Form
from support import ODD_VALUES, Case

FORM = Form.read("price:cheap stock:many")
CHEAP, MANY = Condition.read("cheap", FORM), Condition.read("many", FORM)


def looks(text, form=FORM, **names):
    return Condition.read(text, form, names=names).looks


def first_wrong(text, words):
    """The position that point 5 names, or None: a table of what is permitted, without reading any SUM."""
    signs, wants, count, at = [], True, 0, 0
    while at < len(text):
        end = at + 1
        while "a" <= text[at] <= "z" and end < len(text) and "a" <= text[end] <= "z":
            end += 1
        token = text[at:end]
        if token != " ":
            count += 1
            if count > 60:
                return at
            if wants and token in words:
                wants = False
            elif wants and token in "~(" and len(signs) < 8:
                signs.append(token)
            elif not wants and token in "&|":
                wants = True
            elif not wants and token == ")" and signs:
                signs.pop()
            else:
                return at
            while not wants and signs and signs[-1] == "~":
                signs.pop()
        at = end
    return len(text) if wants or signs else None


class ReadConditionTest(Case):

    def read_fails(self, text, at, form=FORM, names=None):
        self.fails(BadCondition, {"at": at}, Condition.read, text, form, names=names)

    def test_parts(self):
        self.same(looks("all"), ((0, 0), (0, 1), (1, 0), (1, 1)))
        self.same(looks("~all"), ())
        self.same(looks("cheap"), ((1, 0), (1, 1)))
        self.same(looks("many"), ((0, 1), (1, 1)))
        self.same(looks("~cheap"), ((0, 0), (0, 1)))
        self.same(looks("~~cheap"), ((1, 0), (1, 1)))
        self.same(looks("(cheap)"), ((1, 0), (1, 1)))

    def test_signs(self):
        self.same(looks("cheap & many"), ((1, 1),))
        self.same(looks("cheap | many"), ((0, 1), (1, 0), (1, 1)))
        self.same(looks("cheap & many & ~cheap"), ())
        self.same(looks("cheap | many | ~cheap"), looks("all"))

    def test_product_binds_more_than_sum_and_tilde_most(self):
        self.same(looks("cheap | many & ~cheap"), looks("cheap | (many & (~cheap))"))
        self.same(looks("many & ~cheap | cheap"), looks("(many & ~cheap) | cheap"))
        self.same(looks("(cheap | many) & ~cheap"), ((0, 1),))
        self.same(looks("~cheap & many"), ((0, 1),))
        self.same(looks("~cheap | many"), ((0, 0), (0, 1), (1, 1)))
        self.same(looks("~(cheap | many)"), ((0, 0),))

    def test_spaces(self):
        self.same(looks("  ~ ( cheap|many )  "), ((0, 0),))
        self.same(looks("cheap&many"), ((1, 1),))

    def test_names_that_stand_for_conditions(self):
        self.same(looks("r & many", r=CHEAP), ((1, 1),))
        self.same(looks("~r | s", r=CHEAP, s=MANY), ((0, 0), (0, 1), (1, 1)))
        self.same(looks("price", price=MANY), MANY.looks)
        equal_form = Form.of(stock=["many"], price=["cheap"])
        self.same(looks("r & many", r=Condition.read("cheap", equal_form)), ((1, 1),))
        self.read_fails("r", 0)
        self.read_fails("r", 0, names={})
        self.read_fails("cheap & s", 8, names={"r": CHEAP})

    def test_what_is_no_string(self):
        for thing in ODD_VALUES + [0, 1, 7]:
            self.read_fails(thing, -1)

    def test_positions_of_wrong_tokens(self):
        for text, at in (
            ("", 0), ("   ", 3), ("price", 0), ("now", 0), ("cheap price", 6), ("cheap cheap", 6), ("cheapmany", 0),
            ("cheapx", 0), ("&", 0), ("|", 0), (")", 0), (" & cheap", 1), ("cheap &", 7), ("cheap & ", 8),
            ("cheap & & many", 8), ("cheap | | many", 8), ("cheap ~ many", 6), ("cheap (many)", 6), ("()", 1),
            ("(cheap", 6), ("(cheap  ", 8), ("(cheap many", 7), ("cheap)", 5), ("(cheap))", 7), ("~", 1), ("~)", 1),
            ("~ & cheap", 2), ("Cheap", 0), ("cHeap", 0), ("cheap1", 5), ("cheap & 1", 8), ("cheap + many", 6),
            ("cheap && many", 7), ("cheap, many", 5), ("cheap\nmany", 5), ("\tcheap", 0), ("cheap.", 5), ("-", 0),
            ("all all", 4), ("all~", 3), ("~(cheap | ~(many & x))", 19), ("cheap and many", 6), ("cheap or many", 6),
        ):
            self.read_fails(text, at)
            self.assertEqual(first_wrong(text, ("all", "cheap", "many")), at, text)

    def test_sixty_tokens(self):
        sixty = "~cheap" + " & cheap" * 29
        self.same(looks(sixty), ())
        self.read_fails(sixty + " & cheap", len(sixty) + 1)
        self.read_fails(sixty + "   )", len(sixty) + 3)
        self.read_fails(sixty + "x", len(sixty) - 5)
        self.same(looks(sixty + "   "), ())
        self.read_fails("cheap & " * 30, 240)
        self.read_fails("cheap & " * 30 + "many", 240)
        self.read_fails("cheap & " * 29 + "cheap x" + " & cheap" * 9, 29 * 8 + 6)

    def test_eight_levels(self):
        for opening in ("~" * 8, "(" * 8, "~(" * 4, "(~" * 4, "((((~~~~", "~((~~(~("):
            closing = ")" * opening.count("(")
            expected = CHEAP if opening.count("~") % 2 == 0 else ~CHEAP
            self.same(looks(opening + "cheap" + closing), expected.looks)
            for ninth in "~(":
                self.read_fails(opening + ninth + "cheap" + closing, 8)
        self.same(looks("~" * 8 + "cheap & " + "~" * 8 + "many | " + "(" * 8 + "many" + ")" * 8), MANY.looks)
        self.same(looks("(((((((~all | cheap) & ~~cheap))))) | ~many)"), looks("cheap | ~many"))
        self.read_fails("((((((((cheap | ~many))))))))", 16)
        self.read_fails("~~~~~~~~(cheap)", 8)

    def test_random_texts(self):
        chance = random.Random(5)
        pieces = ["cheap", "many", "all", "~", "(", ")", "&", "|", " ", "cheap", "many", "&", "|", ")", "x"]
        for size in list(range(1, 12)) * 100:
            self.check("".join([chance.choice(pieces) for number in range(size)]))

    def test_random_sums(self):
        chance = random.Random(6)
        found = [self.check(grown(chance, 10, size)) for size in list(range(1, 70)) * 20]
        self.assertTrue(found.count("right") > 200)
        self.assertTrue(found.count("wrong") > 200)

    def check(self, text):
        """The reader and the two plain functions of this file say the same of a text."""
        at = first_wrong(text, ("all", "cheap", "many"))
        if at is None:
            self.same(looks(text), evaluated(text))
            return "right"
        self.read_fails(text, at)
        return "wrong"

    def test_by_name(self):
        self.same(Condition.read(text="r", form=FORM, names={"r": MANY}).looks, MANY.looks)


def grown(chance, depth, size):
    """A sum with about this many tokens, with levels to this depth."""
    if size < 2 or depth == 0:
        return chance.choice(["cheap", "many", "all"])
    kind = chance.randrange(4)
    if kind == 0:
        return "~" + grown(chance, depth - 1, size - 1)
    if kind == 1:
        return "(" + grown(chance, depth - 1, size - 2) + ")"
    left = chance.randrange(1, size)
    return grown(chance, depth, left) + chance.choice([" & ", " | "]) + grown(chance, depth, size - left)


def evaluated(text):
    """The looks that a right text takes, by Python's own signs on sets of looks, as bits."""
    names = {"cheap": 12, "many": 10, "all": 15}
    bits = eval(text.strip(), {}, names)
    return tuple([look for at, look in enumerate(((0, 0), (0, 1), (1, 0), (1, 1))) if bits >> at & 1])


class ConditionOfTest(Case):

    def test_takes_these_looks(self):
        made = Condition.of(FORM, [(1, 1), (0, 1), (1, 1)])
        self.same(made.looks, ((0, 1), (1, 1)))
        self.assertEqual(made, MANY)
        self.same(Condition.of(FORM, ()).looks, ())
        self.assertEqual(Condition.of(form=FORM, looks=((1, 0), (1, 1))), CHEAP)

    def test_first_thing_that_is_no_look(self):
        for thing in ODD_VALUES + [0, "", (0,), (0, 0, 0), (0, 2), (2, 0), (0, -1), [0, 0], (True, 0), (0, False)]:
            self.fails(NoLook, {"look": thing}, Condition.of, FORM, [(0, 0), thing, "other"])
            self.fails(NoLook, {"look": thing}, Condition.of, FORM, (thing, (0, 0)))

    def test_copies_its_list(self):
        given = [(0, 0)]
        made = Condition.of(FORM, given)
        given.append((1, 1))
        self.same(made.looks, ((0, 0),))


class ConditionTest(Case):

    def test_text(self):
        self.assertEqual(str(CHEAP), "cheap & ~many | cheap & many")
        self.assertEqual(str(MANY), "~cheap & many | cheap & many")
        self.assertEqual(str(Condition.of(FORM, [(0, 0)])), "~cheap & ~many")
        self.assertEqual(str(CHEAP | ~CHEAP), "all")
        self.assertEqual(str(CHEAP & ~CHEAP), "~all")
        self.assertEqual(str(Condition.read("all", Form.read("a b"))), "all")
        self.assertEqual(str(Condition.read("~all", Form.read("a b"))), "~all")

    def test_text_has_the_filters_ascending_and_the_looks_ascending(self):
        form = Form.read("a:z b:x,y")
        self.assertEqual(
            str(Condition.of(form, [(1, 2), (0, 1), (1, 0)])),
            "x & ~y & ~z | ~x & ~y & z | ~x & y & z",
        )

    def test_texts_can_be_read_again(self):
        form = Form.read("a:y b:x")
        every = list(form.all_looks())
        for bits in range(16):
            made = Condition.of(form, [look for at, look in enumerate(every) if bits >> at & 1])
            self.assertEqual(Condition.read(str(made), form), made)

    def test_form_len_bool(self):
        self.assertEqual(CHEAP.form, FORM)
        self.assertEqual([len(CHEAP), len(CHEAP & MANY), len(CHEAP & ~CHEAP)], [2, 1, 0])
        self.same([bool(CHEAP), bool(CHEAP & ~CHEAP)], [True, False])

    def test_in(self):
        self.assertTrue((1, 0) in CHEAP)
        for thing in ODD_VALUES + [(0, 0), (0, 1), (True, 0), (1, False), [1, 0], (1,), (1, 0, 0), 1, "cheap"]:
            self.assertFalse(thing in CHEAP)

    def test_signs(self):
        self.same((CHEAP & MANY).looks, ((1, 1),))
        self.same((MANY | CHEAP).looks, ((0, 1), (1, 0), (1, 1)))
        self.same((~CHEAP).looks, ((0, 0), (0, 1)))
        self.same((CHEAP.looks, MANY.looks), (((1, 0), (1, 1)), ((0, 1), (1, 1))))

    def test_equal(self):
        self.assertTrue(CHEAP == Condition.read("cheap & all", Form.of(stock=["many"], price=["cheap"])))
        self.assertFalse(CHEAP != Condition.of(FORM, [(1, 1), (1, 0)]))
        other_form = Condition.of(Form.read("price:cheap stock:lots"), [(1, 0), (1, 1)])
        for other in (MANY, ~CHEAP, other_form, str(CHEAP), CHEAP.looks, None, FORM):
            self.assertFalse(CHEAP == other)
            self.assertTrue(CHEAP != other)

    def test_implies(self):
        self.same((CHEAP & MANY).implies(CHEAP), True)
        self.same(CHEAP.implies(CHEAP & MANY), False)
        self.same(CHEAP.implies(CHEAP), True)
        self.same(CHEAP.implies(MANY), False)
        self.same((CHEAP & ~CHEAP).implies(other=MANY & ~MANY), True)
