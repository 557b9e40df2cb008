"""What each step does to a world, and which labels it has."""

from latequestions.books import Book
from latequestions.forms import Form
from latequestions.programs import Program
from latequestions.worlds import Worlds
from support import Case

USUAL, PLAIN, FRESH = Book.usual(), Book.plain(), Book.fresh()


class FollowersCase(Case):

    def table(self, text, *rows, here=USUAL, there=PLAIN, against=None):
        program = Program(rows, Form.read(text))
        other = None if against is None else Program(against, program.form)
        self.told = Worlds(program, here, there, against=other)

    def behind(self, start, *labels):
        return self.told.after(start, labels)

    def labels(self, start, *labels):
        """The labels at the world behind these ones."""
        return [label for label, world in self.told.followers(self.behind(start, *labels))]

    def sides(self, start, *labels):
        world = self.behind(start, *labels)
        return [world[1], world[2]]


class LooksTest(FollowersCase):

    def test_buildings(self):
        self.table("a:f", "q = f")
        self.same(self.labels((1,)), [()])
        self.same(self.behind((1,), ()), (1, ((0,), (("q", "unasked"),), ()), ((0,), (("q", 0),), (((0, 0),),)),
                                          ((1,),)))
        self.same(self.sides((0,), ()), [((0,), (("q", "unasked"),), ()), ((0,), (("q", "out"),), ())])
        self.same(self.behind((), ()), (1, ((), (("q", "unasked"),), ()), ((), (("q", "out"),), ()), ((),)))

    def test_listed_buildings(self):
        self.table("a:f", "q = now f", "len q", here=USUAL, there=FRESH)
        both = ((0,), (("q", 0),), (((0, 0),),))
        self.same(self.sides((1,), ()), [both, both])
        self.same(self.sides((1,), (), ()), [both, both])

    def test_looks_without_a_key(self):
        kept, unasked = ((0,), (("q", 0),), (((0, 0),),)), ((0,), (("q", "unasked"),), ())
        for look in ("len", "truth", "count", "any"):
            for way, side in (("keep", kept), ("ask", unasked), ("anew", unasked)):
                self.table("a", "q = all", f"{look} q", here=Book(**{look: way}))
                self.same(self.labels((0,), ()), [()])
                self.same(self.sides((0,), (), ()), [side, kept])

    def test_kept_answers_do_not_change(self):
        self.table("a:f", "q = f", "len q", "others", "len q", here=USUAL, there=Book(len="anew"))
        behind = [(), (), ("write", "a", 0), ("go",), ()]
        self.same(self.sides((1,), *behind), [((0,), (("q", 0),), (((1, 1),),)), ((0,), (("q", "unasked"),), ())])
        self.same(self.behind((1,), *behind)[3], ((0, 1),))
        behind = [(), (), ("write", "a", 1), ("go",), ()]
        self.same(self.sides((0,), *behind), [((0,), (("q", "out"),), ()), ((0,), (("q", "unasked"),), ())])

    def test_an_answer_that_is_kept_and_not_used(self):
        self.table("a", "q = all", "len q", "others", "xs = list q", here=Book(list="anew"), there=USUAL)
        here, there = self.sides((0,), (), (), ("write", "a", 0), ("go",), ())
        self.same(here, ((0,), (("q", 0), ("xs", 1)), (((1, 1),), ((0, 0),))))
        self.same(there, ((0,), (("q", 0), ("xs", 0)), (((1, 1),),)))

    def test_item(self):
        self.table("a:f", "q = f", "x = q[?]")
        self.same(self.labels((1,), ()), [(0,), (1,)])
        self.same(self.sides((1,), (), (1,)), [((0,), (("q", "unasked"), ("x", 0)), (((0, 0),),)),
                                               ((0,), (("q", 0), ("x", 0)), (((0, 0),),))])
        self.same(self.sides((1,), (), (0,)), [((0,), (("q", "unasked"), ("x", "other")), ()),
                                               ((0,), (("q", 0), ("x", "other")), (((0, 0),),))])
        for start in ((0,), ()):
            row = (0,) if start else ()
            self.same(self.labels(start, ()), [(0,), (1,)])
            self.same(self.sides(start, (), (1,)), [(row, (("q", "unasked"), ("x", "out")), ()),
                                                    (row, (("q", "out"), ("x", "out")), ())])
            self.same(self.sides(start, (), (0,))[1], (row, (("q", "out"), ("x", "other")), ()))

    def test_the_look_takes_its_answer_whatever_is_chosen(self):
        for text in ("x = q[?]", "has q[?]", "xs = q[?:?]"):
            self.table("a", "q = all", text, here=Book(item="keep", has="keep", part="keep"))
            for choice in (0, 1):
                self.same(self.sides((0,), (), (choice,))[0][1][0], ("q", 0))

    def test_has(self):
        self.table("a:f", "q = f", "has q[?]")
        self.same(self.labels((1,), ()), [(0,), (1,)])
        self.same(self.behind((1,), (), (0,)), self.behind((1,), (), (1,)))
        self.same(self.labels((), ()), [(0,), (1,)])

    def test_part(self):
        self.table("a", "q = all", "xs = q[?:?]", "x = xs[?]")
        self.same(self.labels((0,), ()), [(0,), (1,)])
        self.same(self.sides((0,), (), (1,)), [((0,), (("q", "unasked"), ("xs", 0)), (((0, 0),),)),
                                               ((0,), (("q", 0), ("xs", 0)), (((0, 0),),))])
        self.same(self.sides((0,), (), (0,))[1], ((0,), (("q", 0), ("xs", "out")), (((0, 0),),)))
        self.same(self.sides((0,), (), (0,), (1,))[0][1][1:], (("x", "out"), ("xs", "out")))

    def test_list_and_numbers_of_objects(self):
        self.table("a", "r = all", "xs = list r", "q = now all", "b = q[?]", here=FRESH, there=USUAL)
        here, there = self.sides((0,), (), (), (), (1,))
        self.same(here, ((0,), (("b", 0), ("q", 0), ("r", "unasked"), ("xs", 1)), (((0, 0),), ((0, 0),))))
        self.same(there, ((0,), (("b", 0), ("q", 0), ("r", 1), ("xs", 1)), (((0, 0),), ((0, 0),))))

    def test_walks(self):
        self.table("a:f", "q = f", "for w in q", "show w.a", "end")
        self.same(self.sides((1,), (), ()), [((0,), (("q", 0), ("w", 0)), (((0, 0),),))] * 2)
        self.same(self.sides((0,), (), ())[0], ((0,), (("q", "out"), ("w", "out")), ()))
        self.same([self.labels((1,), (), ()), self.labels((0,), (), ()), self.labels((), (), ())], [[()]] * 3)
        self.same(self.sides((1,), (), (), (), ())[0], ((0,), (("q", 0),), (((0, 0),),)))
        self.same(self.behind((1,), (), (), (), ())[0], 4)

    def test_objects_that_no_name_holds_are_left_out(self):
        self.table("a", "q = all", "x = q[?]", "x.a = ?", "x = q[?]", here=USUAL, there=USUAL)
        self.same(self.sides((0,), (), (1,), (0,), (0,)), [((0,), (("q", "unasked"), ("x", "other")), ())] * 2)
        self.same(self.behind((0,), (), (1,), (0,), (0,))[3], ((0,),))

    def test_a_question_that_is_built_again(self):
        self.table("a", "repeat", "q = all", "len q", "end")
        self.same(self.sides((0,), (1,), (), (), (1,), ())[0], ((0,), (("q", "unasked"),), ()))


class PicksTest(FollowersCase):

    def test_picks(self):
        self.table("a", "q = all", "either", "xs = list q", "or", "or", "others", "end", "repeat", "end")
        self.same(self.labels((0,), ()), [(0,), (1,), (2,)])
        self.same([self.behind((0,), (), (branch,))[0] for branch in (0, 1, 2)], [2, 4, 3])
        self.same(self.behind((0,), (), (1,))[1:], self.behind((0,), ())[1:])
        self.same([self.behind((0,), (), (1,), (branch,))[0] for branch in (0, 1)], [5, 4])

    def test_labels_with_the_same_follower(self):
        self.table("a", "either", "or", "end")
        self.same(self.told.followers(self.behind((0,))), [((0,), self.behind((0,), (0,))),
                                                           ((1,), self.behind((0,), (0,)))])
        self.assertEqual(len(self.told), 4)

    def test_what_a_branch_has_bound_stays_bound(self):
        self.table("a", "q = all", "either", "xs = list q", "or", "end", "others")
        self.same([name for name, thing in self.sides((0,), (), (0,), ())[0][1]], ["q", "xs"])
        self.same([name for name, thing in self.sides((0,), (), (1,))[0][1]], ["q"])


class ValuesTest(FollowersCase):

    def test_set(self):
        self.table("a:f b", "q = all", "x = q[?]", "x.a = ?")
        self.same(self.labels((1, 0), (), (1,)), [(0,), (1,)])
        for mask in (0, 1):
            world = self.behind((1, 0), (), (1,), (mask,))
            self.same(world[1:3], (((0, 0), (("q", "unasked"), ("x", 0)), (((1, 0), (0, 0)),)),
                                   ((0, 0), (("q", 0), ("x", 0)), (((1, 0), (0, 0)),))))
            self.same(world[3], ((1, mask), (0,)))
        self.same(self.labels((1, 0), (), (0,)), [()])
        self.same(self.labels((), (), (1,)), [()])

    def test_set_on_one_side_only(self):
        self.table("a:f", "q = f", "others", "x = q[?]", "x.a = ?")
        before = [(), ("write", "a", 0), ("go",), (1,)]
        self.same(self.sides((1,), *before), [((0,), (("q", "unasked"), ("x", "out")), ()),
                                              ((0,), (("q", 0), ("x", 0)), (((1, 1),),))])
        self.same(self.labels((1,), *before), [(0,), (1,)])
        self.same(self.behind((1,), *before, (1,))[2:], (((0,), (("q", 0), ("x", 0)), (((1, 2),),)), ((0, 1, 1),)))
        before = [(), ("write", "a", 1), ("go",), (1,)]
        self.same(self.labels((0,), *before), [(0,), (1,)])
        self.same(self.behind((0,), *before, (0,))[1:3], (((0,), (("q", "unasked"), ("x", 0)), (((1, 0),),)),
                                                          ((0,), (("q", "out"), ("x", "out")), ())))

    def test_add_to_the_same_value(self):
        self.table("a:f", "q = all", "x = q[?]", "x.a += ?")
        self.same(self.labels((1,), (), (1,)), [(0,), (1,)])
        world = self.behind((1,), (), (1,), (0,))
        self.same([world[1][2], world[2][2], world[3]], [(((1, 0),),), (((1, 0),),), ((1, 0),)])

    def test_add_to_unlike_values(self):
        self.table("a:f", "q = all", "others", "x = q[?]", "x.a += ?")
        before = [(), ("write", "a", 1), ("go",), (1,)]
        self.same(self.labels((0,), *before), [(0, 0), (0, 1), (1, 0), (1, 1)])
        world = self.behind((0,), *before, (1, 0))
        self.same(world[1:], (((0,), (("q", "unasked"), ("x", 0)), (((1, 0),),)),
                              ((0,), (("q", 0), ("x", 0)), (((2, 3),),)), ((1, 1, 0, 0),)))

    def test_set_to_unlike_values_is_the_same_value(self):
        self.table("a:f", "q = all", "others", "x = q[?]", "x.a = ?")
        before = [(), ("write", "a", 1), ("go",), (1,)]
        self.same(self.labels((0,), *before), [(0,), (1,)])
        world = self.behind((0,), *before, (1,))
        self.same([world[1][2], world[2][2], world[3]], [(((1, 0),),), (((1, 2),),), ((1, 1, 0),)])

    def test_fresh_add(self):
        rows = ("q = all", "others", "x = q[?]", "fresh x.a += ?")
        self.table("a:f", *rows)
        before = [(), ("write", "a", 1), ("go",), (1,)]
        self.same(self.labels((0,), *before), [(0,), (1,)])
        world = self.behind((0,), *before, (0,))
        self.same([world[1][2], world[2][2], world[3]], [(((1, 0),),), (((1, 0),),), ((1, 0),)])
        # Where the row is gone, the reread is refused, and the value that is held is added to.
        self.table("a:f", "q = all", "x = q[?]", "others", "fresh x.a += ?")
        world = self.behind((1,), (), (1,), ("remove",), ("go",), (0,))
        self.same(world[1:], (((), (("q", "unasked"), ("x", 0)), (((0, 1),),)),
                              ((), (("q", 0), ("x", 0)), (((0, 1),),)), ((0, 1),)))

    def test_fresh_on_one_side(self):
        rows = ["q = all", "x = q[?]", "others", "x.a += ?"]
        self.table("a:f", *rows[:3], "fresh x.a += ?", there=USUAL, against=rows)
        before = [(), (1,), ("write", "a", 1), ("go",)]
        self.same(self.labels((0,), *before), [(0, 0), (0, 1), (1, 0), (1, 1)])
        world = self.behind((0,), *before, (0, 1))
        self.same([world[1][2], world[2][2], world[3]], [(((1, 0),),), (((2, 3),),), ((1, 0, 1, 0),)])

    def test_update(self):
        self.table("a:f", "q = f", "update q.a = ?", here=USUAL, there=USUAL)
        self.same([self.labels((1,), ()), self.labels((0,), ()), self.labels((), ())], [[(0,), (1,)], [()], [()]])
        self.same(self.behind((1,), (), (0,)), (2, ((0,), (("q", "unasked"),), ()), ((0,), (("q", "unasked"),), ()),
                                                ((0,),)))

    def test_update_leaves_kept_answers(self):
        self.table("a:f", "q = f", "update q.a = ?")
        self.same(self.behind((1,), (), (0,))[2:], (((0,), (("q", 0),), (((1, 1),),)), ((0, 1),)))

    def test_raise(self):
        rows = ("q = all", "x = q[?]", "others", "save x", "update q.a += ?")
        self.table("a:f", *rows[:3], "save x", "update q.a += ?", there=USUAL,
                   against=[*rows[:3], "save x touched", rows[4]])
        self.same(self.labels((0,), (), (1,), ("go",), ()), [(0,), (1,)])
        before = [(), (1,), ("write", "a", 0), ("go",), ()]
        self.same(self.labels((0,), *before), [(0, 0), (0, 1), (1, 0), (1, 1)])
        world = self.behind((0,), *before, (1, 0))
        self.same([world[1][0], world[2][0], world[3]], [(0,), (2,), ((1, 0, 0),)])
        # Only the store here has the row again.
        before = [(), (1,), ("remove",), ("go",), ()]
        self.same(self.labels((0,), *before), [(0,), (1,)])
        self.same([side[0] for side in self.sides((0,), *before, (1,))], [(0,), ()])

    def test_three_filters(self):
        self.table("a:f,g,h", "q = all", "update q.a = ?")
        self.same(self.labels((7,), ()), [(mask,) for mask in range(8)])

    def test_the_field_of_the_row(self):
        self.table("a b:f", "q = all", "x = q[?]", "x.b = ?", "save x by b")
        self.same(self.labels((0, 1), (), (1,)), [(0,), (1,)])
        self.same(self.behind((0, 1), (), (1,), (0,))[3], ((0,), (1, 0)))


class DeedsTest(FollowersCase):

    def test_save_whole(self):
        self.table("a b", "q = all", "x = q[?]", "x.a = ?", "others", "save x", there=USUAL)
        self.same(self.sides((0, 0), (), (1,), (0,), ("write", "b", 0), ("go",), ())[0],
                  ((0, 0), (("q", "unasked"), ("x", 0)), (((0, 0), (0, 0)),)))
        self.same(self.sides((0, 0), (), (1,), (0,), ("remove",), ("go",), ())[0],
                  ((0, 0), (("q", "unasked"), ("x", 0)), (((0, 0), (0, 0)),)))
        self.same(self.sides((), (), (1,), (), ("go",), ())[0], ((), (("q", "unasked"), ("x", "out")), ()))

    def test_save_by_and_touched(self):
        for row in ("save x by a", "save x touched"):
            self.table("a b", "q = all", "x = q[?]", "x.a = ?", "others", row, there=USUAL)
            self.same(self.sides((0, 0), (), (1,), (0,), ("write", "b", 0), ("go",), ())[0],
                      ((0, 0), (("q", "unasked"), ("x", 0)), (((0, 0), (1, 1)),)))
            self.same(self.sides((0, 0), (), (1,), (0,), ("remove",), ("go",), ())[0],
                      ((), (("q", "unasked"), ("x", 0)), (((0, 1), (0, 0)),)))

    def test_save_by_an_untouched_field(self):
        self.table("a b", "q = all", "x = q[?]", "x.a = ?", "save x by b", there=USUAL)
        self.same(self.sides((0, 0), (), (1,), (0,), ())[0], ((0, 0), (("q", "unasked"), ("x", 0)),
                                                              (((1, 0), (0, 0)),)))

    def test_save_touched_without_touched_fields(self):
        self.table("a b", "q = all", "x = q[?]", "others", "save x touched", there=USUAL)
        self.same(self.sides((0, 0), (), (1,), ("write", "b", 0), ("go",), ())[0],
                  ((0, 0), (("q", "unasked"), ("x", 0)), (((0, 0), (1, 1)),)))

    def test_reread_and_fresh_show(self):
        for row in ("reread x", "fresh show x.a"):
            self.table("a", "q = all", "x = q[?]", "x.a = ?", row, there=USUAL)
            self.same(self.sides((0,), (), (1,), (0,), ())[0], ((0,), (("q", "unasked"), ("x", 0)), (((0, 0),),)))
            self.table("a", "q = all", "x = q[?]", "x.a = ?", "others", row, there=USUAL)
            self.same(self.sides((0,), (), (1,), (0,), ("remove",), ("go",), ())[0],
                      ((), (("q", "unasked"), ("x", 0)), (((0, 1),),)))

    def test_show(self):
        self.table("a", "q = all", "x = q[?]", "x.a = ?", "show x.a", there=USUAL)
        self.same(self.sides((0,), (), (1,), (0,), ()), self.sides((0,), (), (1,), (0,)))

    def test_delete_and_wipe(self):
        for row in ("delete x", "wipe q"):
            self.table("a:f", "q = f", "x = q[?]", row, there=USUAL)
            self.same(self.sides((1,), (), (1,), ())[0], ((), (("q", "unasked"), ("x", 0)), (((0, 0),),)))
            self.same(self.sides((0,), (), (1,), ())[0], ((0,), (("q", "unasked"), ("x", "out")), ()))
        self.same([side[0] for side in self.sides((1,), (), (0,), ())], [(), ()])
        self.table("a", "q = all", "x = q[?]", "others", "delete x")
        self.same([side[0] for side in self.sides((0,), (), (1,), ("remove",), ("go",), ())], [(), ()])

    def test_walked_objects(self):
        self.table("a:f", "q = f", "for w in q", "w.a = ?", "save w", "end", there=USUAL)
        self.same([self.labels((1,), (), ()), self.labels((0,), (), ())], [[(0,), (1,)], [()]])
        self.same(self.sides((1,), (), (), (0,), ())[0], ((0,), (("q", 0), ("w", 0)), (((0, 0),),)))

    def test_no_value_is_equal_by_chance(self):
        self.table("a", "q = all", "x = q[?]", "x.a = ?", "x.a = ?", there=USUAL)
        self.same(self.sides((0,), (), (1,), (0,), (0,))[0], ((0,), (("q", "unasked"), ("x", 0)), (((1, 0),),)))
        self.same(self.behind((0,), (), (1,), (0,), (0,))[3], ((0, 0),))


class OthersTest(FollowersCase):

    def test_labels(self):
        self.table("b:f,g a", "others")
        puts = [("put", 0, mask) for mask in range(4)]
        writes = [("write", "a", 0)] + [("write", "b", mask) for mask in range(4)]
        self.same(self.labels((0, 2)), [("go",), *puts, ("remove",), *writes])
        self.same(self.labels(()), [("go",), *puts])

    def test_the_row_in_one_store_only(self):
        self.table("a", "q = all", "x = q[?]", "delete x", "others", there=USUAL,
                   against=["q = now all", "x = q[?]", "delete x", "others"])
        self.same(self.labels((0,), (), (1,), ()), [("go",), ("put", 0)])
        self.table("a", "q = all", "x = q[?]", "x.a = ?", "others", "save x", "others", there=USUAL,
                   against=["q = all", "x = q[?]", "x.a = ?", "others", "save x touched", "others"])
        before = [(), (1,), (0,), ("remove",), ("go",), ()]
        self.same([side[0] for side in self.sides((0,), *before)], [(0,), ()])
        self.same(self.labels((0,), *before), [("go",), ("put", 0), ("remove",), ("write", "a", 0)])
        self.same([side[0] for side in self.sides((0,), *before, ("write", "a", 0))], [(0,), ()])
        self.same([side[0] for side in self.sides((0,), *before, ("remove",))], [(), ()])
        self.same([side[0] for side in self.sides((0,), *before, ("put", 0))], [(0,), (0,)])
        self.table("a", "q = all", "x = q[?]", "x.a = ?", "others", "save x touched", "others", there=USUAL,
                   against=["q = all", "x = q[?]", "x.a = ?", "others", "save x", "others"])
        self.same([side[0] for side in self.sides((0,), *before)], [(), (0,)])
        self.same(self.labels((0,), *before), [("go",), ("put", 0), ("remove",), ("write", "a", 0)])
        # The object here holds 0 and has read 1.
        self.same([side[0] for side in self.sides((0,), *before, ("write", "a", 0))], [(), (2,)])

    def test_go(self):
        self.table("a", "others", "q = all")
        self.same(self.behind((0,), ("go",)), (1, *self.behind((0,))[1:]))

    def test_put(self):
        self.table("a:f b", "q = all", "others", here=PLAIN)
        world = self.behind((0, 0), (), ("put", 1, 0))
        side = ((0, 0), (("q", 0),), (((1, 1), (1, 1)),))
        self.same(world, (1, side, side, ((1, 0), (0, 0))))
        self.same(self.behind((), (), ("put", 1, 0)), (1, *[((0, 0), (("q", "out"),), ())] * 2, ((1,), (0,))))

    def test_write(self):
        self.table("a:f b", "q = all", "others", here=PLAIN)
        world = self.behind((0, 0), (), ("write", "b", 0), ("write", "a", 1))
        side = ((0, 0), (("q", 0),), (((1, 1), (1, 1)),))
        self.same(world, (1, side, side, ((1, 0), (0, 0))))

    def test_remove(self):
        self.table("a:f", "q = all", "others")
        self.same(self.behind((1,), (), ("remove",)), (1, ((), (("q", "unasked"),), ()),
                                                       ((), (("q", 0),), (((0, 0),),)), ((1,),)))

    def test_numbers_of_values(self):
        # The row here is met first, then the objects here, then the row there, then the objects there.
        self.table("a:f", "q = f", "x = q[?]", "x.a = ?", "others", "save x", there=USUAL,
                   against=["q = f", "x = q[?]", "x.a = ?", "others", "save x touched"])
        world = self.behind((1,), (), (1,), (0,), ("remove",), ("put", 1), ("go",), ())
        self.same(world, (5, ((0,), (("q", "unasked"), ("x", 0)), (((0, 0),),)),
                          ((0,), (("q", "unasked"), ("x", 0)), (((0, 0),),)),
                          ((0,),)))
        world = self.behind((1,), (), (1,), (0,), ("put", 1), ("go",))
        self.same(world[1:], (((0,), (("q", "unasked"), ("x", 0)), (((1, 2),),)),
                              ((0,), (("q", "unasked"), ("x", 0)), (((1, 2),),)), ((1, 0, 1),)))
