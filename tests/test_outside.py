from latequestions.errors import BadDeed
from latequestions.runs import Outside
from support import GREATEST_KEY, GREATEST_VALUE, ODD_VALUES, Case

NO_DEEDS = ODD_VALUES + [
    0, "put", "remove", ("put",), ("put", 1), ("put", 1, ()), ("put", 1, (1, 2, 3, 4)), ("put", 1, [1]), ("put", 1, 1),
    ("put", 1, (True,)), ("put", 1, ("a",)), ("put", 1, (None,)), ("put", True, (1,)), ("put", "1", (1,)),
    ("put", None, (1,)),
    ("put", 1, (1,), 2), ["put", 1, (1,)], ("write", 1), ("write", 1, "price"), ("write", 1, "price", True),
    ("write", 1, "price", "1"), ("write", 1, 5, 5), ("write", 1, None, 5), ("write", False, "price", 5),
    ("write", 1, ("price",), 5), ("write", 1, "price", 5, 6), ("remove",), ("remove", None), ("remove", True),
    ("remove", "a"), ("remove", 1, 2), ["remove", 1], ("Remove", 1), ("go", 1), (1, "remove"), ("delete", 1), ("", 1),
]
DEEDS = [
    ("put", 1, (1,)), ("put", -GREATEST_KEY, (1, -GREATEST_VALUE)), ("put", 0, (0, 0, 10 ** 50)), ("remove", 10 ** 31),
    ("write", 3, "price", 4), ("write", 3, "", 4), ("write", 3, "no field at all", -1), ("remove", -7),
]


class OutsideTest(Case):

    def test_without_anything(self):
        outside = Outside()
        self.same([outside.picks, outside.choices, outside.cuts, outside.deeds], [(), (), (), ()])
        self.same([outside.value(0, 5), outside.value(7, 1), outside.value(n=3, key=9)], [0, 7, 3])

    def test_attributes(self):
        outside = Outside([0, 1], (5, -6), [(1, 2), (3, 2)], [DEEDS, [], tuple(DEEDS[:1])], value=max)
        self.same(outside.picks, (0, 1))
        self.same(outside.choices, (5, -6))
        self.same(outside.cuts, ((1, 2), (3, 2)))
        self.same(outside.deeds, (tuple(DEEDS), (), (DEEDS[0],)))
        self.assertIs(outside.value, max)

    def test_by_name(self):
        outside = Outside(deeds=(DEEDS,), cuts=[(0, 1)], choices=[2], picks=(1,), value=None)
        self.same([outside.picks, outside.choices, outside.cuts, outside.deeds],
                  [(1,), (2,), ((0, 1),), (tuple(DEEDS),)])
        with self.assertRaises(TypeError):
            Outside([], [], [], [], None)

    def test_things_that_are_no_deeds(self):
        for thing in NO_DEEDS:
            with self.subTest(thing):
                self.fails(BadDeed, {"deed": thing}, Outside, deeds=[DEEDS, [], [DEEDS[0], thing, None]])

    def test_the_first_of_several(self):
        self.fails(BadDeed, {"deed": 1}, Outside, [], [], [], [[("remove", 1)], [1, 2], [3]])
        self.fails(BadDeed, {"deed": 3}, Outside, [], [], [], [(), (3,), [1, 2]])

    def test_lists_that_are_changed_later(self):
        picks, choices, cuts, deeds = [1], [2], [(3, 4)], [[("remove", 5)]]
        outside = Outside(picks, choices, cuts, deeds)
        deeds[0].append(("remove", 6))
        for listed in (picks, choices, cuts, deeds):
            listed.clear()
        self.same([outside.picks, outside.choices, outside.cuts, outside.deeds],
                  [(1,), (2,), ((3, 4),), ((("remove", 5),),)])

    def test_equal_to_itself_only(self):
        one = Outside()
        self.assertTrue(one == one)
        self.assertFalse(one == Outside())
