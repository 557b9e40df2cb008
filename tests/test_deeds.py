from latequestions.deeds import is_deed
from support import ODD_VALUES, Case


class DeedOfSomeFormTest(Case):

    def test_deeds(self):
        for deed in (
            ("put", 1, (1,)), ("put", -1, (1, 2)), ("put", 10 ** 50, (1, 2, 10 ** 50)), ("remove", 0),
            ("write", 1, "price", 5), ("write", 1, "", 5), ("write", 1, "no field", -5),
        ):
            self.same(is_deed(deed), True)

    def test_what_is_none(self):
        for thing in ODD_VALUES + [
            ("put", 1, ()), ("put", 1, (1, 2, 3, 4)), ("put", 1, [1]), ("put", True, (1,)), ("put", 1, (True,)),
            ("write", 1, None, 5), ("write", 1, 0, 5), ("write", 1, ("price",), 5), ("write", 1, "price", False),
            ("remove", 1, 1), ["remove", 1], ("go", 1), ("remove", False),
        ]:
            self.same(is_deed(thing), False)
