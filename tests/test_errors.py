from latequestions import errors
from support import ODD_VALUES, Case

ONE_FIELD = {
    ValueError: (
        ("BadForm", "thing"), ("BadCondition", "at"), ("BadBook", "thing"), ("BadRow", "at"), ("BadDeed", "deed"),
        ("BadPick", "pick"), ("BadGoal", "goal"), ("BadStart", "start"), ("BadLabel", "label"), ("NoTurn", "row"),
        ("TooMany", "what"),
    ),
    KeyError: (("NoField", "field"), ("NoFilter", "name")),
    LookupError: (("NoRow", "key"), ("Gone", "key"), ("NoName", "name"), ("NoLook", "look"), ("NoWorld", "world")),
    RuntimeError: (("Held", "key"), ("Waiting", "at")),
}
NO_FIELD = {ValueError: ("OtherForm", "NotAlong"), RuntimeError: ("Over",)}


class ErrorsTest(Case):

    def base_of(self, base):
        return errors.LateError if base is ValueError else base

    def test_bases(self):
        self.assertEqual(errors.LateError.__bases__, (ValueError,))
        for base, names in ONE_FIELD.items():
            for name, field in names:
                self.assertEqual(getattr(errors, name).__bases__, (self.base_of(base),), name)
        for base, names in NO_FIELD.items():
            for name in names:
                self.assertEqual(getattr(errors, name).__bases__, (self.base_of(base),), name)

    def test_fields_hold_any_value(self):
        for names in ONE_FIELD.values():
            for name, field in names:
                for value in ODD_VALUES + ["", "a b", -1, 10 ** 39]:
                    made = getattr(errors, name)(value)
                    self.same(vars(made), {field: value})
                    named = getattr(errors, name)(**{field: value})
                    self.same(vars(named), {field: value})

    def test_errors_without_a_field(self):
        for name in ("LateError", "OtherForm", "NotAlong", "Over"):
            self.assertEqual(vars(getattr(errors, name)()), {})

    def test_a_list_changed_later_does_not_change_the_error(self):
        for names in ONE_FIELD.values():
            for name, field in names:
                value = [1, [2], ([3],)]
                made = getattr(errors, name)(value)
                value.append(4)
                value[1].append(5)
                value[2][0].append(6)
                self.same(getattr(made, field), [1, [2], ([3],)])

    def test_errors_are_equal_to_themselves_only(self):
        one = errors.BadForm("a")
        self.assertTrue(one == one)
        self.assertFalse(one == errors.BadForm("a"))
