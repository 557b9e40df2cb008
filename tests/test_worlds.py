from latequestions.books import Book
from latequestions.errors import BadLabel, BadStart, NotAlong, NoWorld, TooMany
from latequestions.forms import Form
from latequestions.programs import Program
from latequestions.worlds import MOST_WORLDS, Worlds
from support import ODD_VALUES, Case

USUAL, PLAIN, FRESH = Book.usual(), Book.plain(), Book.fresh()


def table_of(text, *rows, here=USUAL, there=PLAIN, **named):
    return Worlds(Program(rows, Form.read(text)), here, there, **named)


def replaced(thing, old, new):
    """A nested tuple with one of its things, the first such one, replaced; None if there is none."""
    if type(thing) is type(old) and thing == old:
        return new
    if not isinstance(thing, tuple):
        return None
    for at, part in enumerate(thing):
        other = replaced(part, old, new)
        if other is not None:
            return (*thing[:at], other, *thing[at + 1:])
    return None


class FirstsTest(Case):

    def test_one_field(self):
        table = table_of("a", "q = all")
        row, none = ((0,), (), ()), ((), (), ())
        self.same(list(table.firsts()), [((), (0, none, none, ((),))), ((0,), (0, row, row, ((0,),)))])

    def test_filters(self):
        firsts = list(table_of("a:f,g b c:h").firsts())
        none = ((), (), ())
        self.same(firsts[0], ((), (0, none, none, ((), (), ()))))
        self.same([start for start, world in firsts[1:]], [(m, 0, n) for m in range(4) for n in range(2)])
        row = ((0, 0, 0), (), ())
        for look, world in firsts[1:]:
            self.same(world, (0, row, row, ((look[0],), (0,), (look[2],))))

    def test_a_generator(self):
        firsts = table_of("a").firsts()
        self.same(next(firsts)[0], ())
        self.same(next(firsts)[0], (0,))
        self.same(next(firsts, None), None)


class TableTest(Case):

    def test_the_second_example(self):
        self.assertEqual(len(table_of("a:f b", "q = f", "others", "x = q[?]", "x.b = ?", "save x")), 80)

    def test_the_third_example(self):
        table = table_of("a", "q = all", "x = q[?]")
        world = (2, ((0,), (("q", "unasked"), ("x", 0)), (((0, 0),),)), ((0,), (("q", 0), ("x", 0)), (((0, 0),),)),
                 ((0,),))
        self.same(table.after((0,), ((), (1,))), world)
        self.assertTrue(world in table)

    def test_without_steps(self):
        for rows in ((), ("quiet", "end")):
            table = table_of("a:f", *rows)
            self.same([len(table), table.worlds()], [3, [world for start, world in table.firsts()]])
            for world in table.worlds():
                self.same([table.followers(world), table.distance(world)], [[], 0])

    def test_worlds_by_breadth(self):
        for rows in (("q = f", "others", "x = q[?]", "x.b = ?", "save x"),
                     ("q = f", "repeat", "xs = list q", "wipe q", "end"),
                     ("q = f", "repeat", "either", "x = q[?]", "or", "update q.a += ?", "end", "end")):
            table = table_of("a:f b", *rows)
            worlds = [world for start, world in table.firsts()]
            distances = {world: 0 for world in worlds}
            for world in worlds:
                followers = table.followers(world)
                labels = [label for label, behind in followers]
                self.same(labels, sorted(labels))
                self.assertEqual(len(labels), len(set(labels)))
                for label, behind in followers:
                    if behind not in distances:
                        distances[behind] = distances[world] + 1
                        worlds.append(behind)
            self.same(table.worlds(), worlds)
            self.assertEqual(len(table), len(worlds))
            self.same([table.distance(world) for world in worlds], list(distances.values()))

    def test_most(self):
        rows = ("q = f", "others", "x = q[?]", "x.b = ?", "save x")
        self.assertEqual(len(table_of("a:f b", *rows, most=80)), 80)
        for most in (79, 4, 3, 2, 1):
            self.fails(TooMany, {"what": "worlds"}, table_of, "a:f b", *rows, most=most)
        self.same(MOST_WORLDS, 3000)
        self.assertEqual(len(table_of("a", most=2)), 2)
        self.fails(TooMany, {"what": "worlds"}, table_of, "a", most=1)

    def test_too_many_by_default(self):
        rows = ("q = f", "x = q[?]", "x.a += ?", "others", "r = g", "y = r[?]", "x.a += ?", "others", "save x")
        self.fails(TooMany, {"what": "worlds"}, table_of, "a:f,g,h", *rows)

    def test_against(self):
        rows = ["q = all", "x = q[?]", "x.a = ?", "others", "save x"]
        program = Program(rows, Form.read("a b"))
        turned = program.turned([2, 4])
        table = Worlds(program, USUAL, USUAL, against=turned)
        behind = table.after((0, 0), ((), (1,), (0,), ("write", "b", 0), ("go",), ()))
        self.same([behind[1][0], behind[2][0]], [(0, 0), (0, 1)])
        same = Worlds(program, USUAL, USUAL).after((0, 0), ((), (1,), (0,), ("write", "b", 0), ("go",), ()))
        self.same([same[1][0], same[2][0]], [(0, 0), (0, 0)])
        self.same(Worlds(program, USUAL, PLAIN, against=program).worlds(), Worlds(program, USUAL, PLAIN).worlds())
        self.same(Worlds(program, USUAL, PLAIN, against=None).worlds(), Worlds(program, USUAL, PLAIN).worlds())

    def test_not_along(self):
        program = Program(["q = all"], Form.read("a:f"))
        for other in (Program([], program.form), Program(["q = f"], program.form), Program(["q = all"], Form.read("a")),
                      Program(["q = all", "others"], program.form)):
            self.fails(NotAlong, {}, Worlds, program, USUAL, PLAIN, against=other)
            self.fails(NotAlong, {}, Worlds, program, USUAL, PLAIN, against=other, most=1)
        # A program without steps is false as a truth value, but it is a program.
        self.fails(NotAlong, {}, Worlds, program, USUAL, PLAIN, against=Program([], program.form))

    def test_by_name(self):
        program = Program(["q = all"], Form.read("a"))
        table = Worlds(program=program, here=USUAL, there=FRESH, against=program, most=50)
        self.assertEqual(len(table), 4)
        with self.assertRaises(TypeError):
            Worlds(program, USUAL, FRESH, program)

    def test_equal_to_itself_only(self):
        table = table_of("a")
        self.assertTrue(table == table)
        self.assertFalse(table == table_of("a"))


class MembersTest(Case):

    def setUp(self):
        self.table = table_of("a:f b", "q = f", "x = q[?]", "x.b = ?")
        self.world = self.table.after((1, 0), ((), (1,)))

    def test_all_worlds_are_in(self):
        self.same([world in self.table for world in self.table.worlds()], [True] * len(self.table))

    def test_things_that_are_no_worlds(self):
        world = self.world
        self.same(world, (2, ((0, 0), (("q", "unasked"), ("x", 0)), (((0, 0), (0, 0)),)),
                          ((0, 0), (("q", 0), ("x", 0)), (((0, 0), (0, 0)),)), ((1,), (0,))))
        things = ODD_VALUES + [
            0, "", list(world), world[1:], (*world, 0), world[0], world[1], (3, *world[1:]), (9, *world[1:]),
            replaced(world, 1, True), replaced(world, 0, False), replaced(world, 2, "2"),
            replaced(world, "x", "y"), replaced(world, "unasked", "out"), replaced(world, "unasked", None),
            replaced(world, (0, 0), [0, 0]), replaced(world, 0, ((((((((0,),),),),),),),)),
            replaced(world, 2, 10 ** 40),
            replaced(world, ((1,), (0,)), ((1,), (0,), (0,))), replaced(world, (1,), (0,)), [world], (world,),
            replaced(world, ("x", 0), ["x", 0]), [[world]],
        ]
        for thing in things:
            self.same(thing in self.table, False)
            self.fails(NoWorld, {"world": thing}, self.table.followers, thing)
            self.fails(NoWorld, {"world": thing}, self.table.distance, thing)
        self.same([self.table.distance(world=world), len(self.table.followers(world=world))], [2, 1])

    def test_true_is_no_one_as_a_mask(self):
        start = dict(self.table.firsts())[1, 0]
        self.same(start in self.table, True)
        self.same(replaced(start, 1, True) in self.table, False)

    def test_results_are_new(self):
        self.table.worlds().clear()
        self.table.followers(self.world).clear()
        self.assertEqual(len(self.table.worlds()), len(self.table))
        self.assertEqual(len(self.table.followers(self.world)), 1)

    def test_a_world_that_is_over(self):
        world = self.table.after((1, 0), ((), (1,), (0,)))
        self.same([world[0], self.table.followers(world)], [3, []])
        self.fails(BadLabel, {"label": ()}, self.table.after, (1, 0), ((), (1,), (0,), ()))


class AfterTest(Case):

    def setUp(self):
        self.table = table_of("a:f b", "q = f", "x = q[?]", "x.a = ?")

    def test_after(self):
        for start, world in self.table.firsts():
            self.same(self.table.after(start, ()), world)
        world = self.table.after(start=(1, 0), labels=((), (1,), (1,)))
        self.same([world[0], world[3]], [3, ((1, 1), (0,))])

    def test_wrong_starts(self):
        for start in ODD_VALUES + [0, "", (0,), (2, 0), (0, 1), (1, 0, 0), [1, 0], (True, 0), (1, False), ((1, 0),),
                                   "ab", [()]]:
            if start != ():
                self.fails(BadStart, {"start": start}, self.table.after, start, ())
                self.fails(BadStart, {"start": start}, self.table.after, start, None)

    def test_labels_that_are_no_tuple(self):
        for labels in ODD_VALUES + [0, "", [()], [[], [1]]]:
            if not isinstance(labels, tuple):
                self.fails(BadLabel, {"label": labels}, self.table.after, (1, 0), labels)

    def test_wrong_labels(self):
        for label in ODD_VALUES + [0, "", (0,), ("go",), [()], ((),)]:
            if label != ():
                self.fails(BadLabel, {"label": label}, self.table.after, (1, 0), (label, None))
        for label in ODD_VALUES + [1, (2,), (-1,), (True,), (False,), (1, 0), [1], ("go",), ((1,),), ("1",)]:
            self.fails(BadLabel, {"label": label}, self.table.after, (1, 0), ((), label, ()))
        for label in ((), (2,), (True,), (0, 0), [0], (0, 1)):
            self.fails(BadLabel, {"label": label}, self.table.after, (1, 0), ((), (1,), label))
        # Without an object of the row nothing gets the value.
        for label in ((0,), (1,)):
            self.fails(BadLabel, {"label": label}, self.table.after, (1, 0), ((), (0,), label))
        self.same(self.table.after((1, 0), ((), (0,), ()))[0], 3)
