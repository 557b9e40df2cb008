import random

from asked import Brute
from latequestions.askings import Askings, ways
from latequestions.books import Book
from latequestions.errors import BadPick, NoLook
from latequestions.forms import Form
from latequestions.programs import Program
from support import ODD_VALUES, Case
from twinned import random_book, random_program

FORM = Form.read("a")


def program_of(*rows):
    return Program(rows, FORM)


def askings(book, *rows):
    return Askings(program_of(*rows), book)


class SourcesTest(Case):

    def all_sources(self, book, *rows):
        told = askings(book, *rows)
        return [told.sources(at) for at, step in enumerate(told.program.steps) if step.source]

    def test_keep_ask_and_anew(self):
        rows = ("q = all", "count q", "len q", "count q", "any q")
        self.same(self.all_sources(Book.usual(), *rows), [(1,), (2,), (2,), (2,)])
        self.same(self.all_sources(Book.plain(), *rows), [(0,)] * 4)
        self.same(self.all_sources(Book.fresh(), *rows), [(1,), (2,), (3,), (4,)])
        self.same(self.all_sources(Book("early", any="anew"), *rows), [(0,), (0,), (0,), (4,)])
        self.same(self.all_sources(Book(count="keep", len="anew"), *rows), [(1,), (2,), (1,), (1,)])

    def test_listed_questions(self):
        rows = ("q = now all", "count q", "len q", "x = q[?]")
        for book in (Book.usual(), Book.plain(), Book.fresh()):
            self.same(self.all_sources(book, *rows), [(0,)] * 3)

    def test_listings(self):
        rows = ("q = all", "xs = list q", "len q", "ys = xs[?:?]", "for w in ys", "end", "has xs[?]", "xs = list xs",
                "any xs")
        self.same(self.all_sources(Book.fresh(), *rows), [(1,), (2,), (1,), (1,), (1,), (1,), (1,)])
        self.same(self.all_sources(Book.usual(), *rows), [(1,)] * 7)
        self.same(self.all_sources(Book(list="ask"), *rows), [(1,), (2,), (1,), (1,), (1,), (1,), (1,)])

    def test_all_looks(self):
        rows = ("q = all", "for w in q", "end", "xs = list q", "len q", "truth q", "count q", "any q", "has q[?]",
                "x = q[?]", "xs = q[?:?]")
        looks = [1, 3, 4, 5, 6, 7, 8, 9, 10]
        for look, at in zip(Book.LOOKS, looks):
            ways_of = {other: "anew" for other in Book.LOOKS}
            expected = [(at,) if later >= at else (later,) for later in looks]
            ways_of[look] = "keep"
            for other in Book.LOOKS[Book.LOOKS.index(look) + 1:]:
                ways_of[other] = "ask"
            self.same(self.all_sources(Book("late", **ways_of), *rows), expected)

    def test_branches(self):
        rows = ("q = all", "either", "len q", "or", "truth q", "or", "count q", "end", "any q")
        self.same(self.all_sources(Book.usual(), *rows)[-1], (2, 3, 5))
        self.same(self.all_sources(Book.plain(), *rows)[-1], (0,))

    def test_loops(self):
        rows = ("q = all", "repeat", "any q", "len q", "end")
        self.same(self.all_sources(Book.usual(), *rows), [(2, 3), (3,)])
        rows = ("q = all", "xs = list q", "repeat", "len xs", "xs = list q", "end")
        self.same(self.all_sources(Book.fresh(), *rows), [(1,), (1, 4), (4,)])
        rows = ("repeat", "q = all", "len q", "end")
        self.same(self.all_sources(Book.usual(), *rows), [(2,)])

    def test_a_listing_of_one_of_two_questions(self):
        rows = ("q = all", "r = q", "either", "xs = list q", "or", "xs = list r", "end", "repeat", "len xs",
                "xs = list r",
                "end")
        self.same(self.all_sources(Book.usual(), *rows), [(3,), (4,), (3, 4, 7), (4, 7)])

    def test_no_looks(self):
        told = askings(Book.usual(), "q = all", "for w in q", "save w", "end", "others", "repeat", "end", "len q")
        for thing in ODD_VALUES + [0, 2, 3, 4, 5, 7, -1, -6, "1", [1], (1,)]:
            self.fails(NoLook, {"look": thing}, told.sources, thing)
            self.fails(NoLook, {"look": thing}, told.shortest_way, thing, None)
            self.fails(NoLook, {"look": thing}, told.stands_with, thing, None)
            self.fails(NoLook, {"look": thing}, told.stands_with, 1, thing)
        self.same([told.sources(step=1), told.sources(6)], [(1,), (1,)])


class ShortestWayTest(Case):

    def test_branches(self):
        told = askings(Book.usual(), "q = all", "either", "len q", "or", "others", "truth q", "or", "end", "any q")
        self.same(told.sources(5), (2, 4, 5))
        self.same(told.shortest_way(5, 2), (0, 1, 2, 5))
        self.same(told.shortest_way(step=5, source=4), (0, 1, 3, 4, 5))
        self.same(told.shortest_way(5, 5), (0, 1, 5))

    def test_loops(self):
        told = askings(Book.usual(), "q = all", "repeat", "any q", "len q", "end")
        self.same(told.shortest_way(2, 2), (0, 1, 2))
        self.same(told.shortest_way(2, 3), (0, 1, 2, 3, 1, 2))

    def test_the_least_of_equally_short_ways(self):
        told = askings(Book.usual(), "q = all", "either", "others", "or", "others", "or", "others", "end", "len q")
        self.same(told.shortest_way(5, 5), (0, 1, 2, 5))
        told = askings(Book.fresh(), "q = all", "either", "repeat", "others", "end", "or", "others", "or", "others",
                       "end",
                       "xs = list q", "len xs")
        self.same(told.shortest_way(7, 6), (0, 1, 2, 6, 7))

    def test_the_least_way_where_both_branches_have_the_source(self):
        told = askings(Book.usual(), "q = now all", "xs = list q", "either", "others", "or", "xs = q[?:?]", "end",
                       "len xs")
        self.same(told.shortest_way(5, 0), (0, 1, 2, 3, 5))
        told = askings(Book.usual(), "q = now all", "xs = list q", "either", "xs = q[?:?]", "or", "others", "end",
                       "len xs")
        self.same(told.shortest_way(5, 0), (0, 1, 2, 3, 5))

    def test_a_longer_way_to_the_source(self):
        told = askings(Book.fresh(), "q = all", "xs = list q", "repeat", "either", "ys = list q", "xs = list ys", "or",
                       "end",
                       "end", "len xs")
        self.same(told.sources(6), (1, 4))
        self.same(told.shortest_way(6, 1), (0, 1, 2, 6))
        self.same(told.shortest_way(6, 4), (0, 1, 2, 3, 4, 5, 2, 6))

    def test_wrong_sources(self):
        told = askings(Book.usual(), "q = all", "len q", "any q")
        for thing in ODD_VALUES + [0, 2, 3, -1, "1", [1]]:
            self.fails(NoLook, {"look": thing}, told.shortest_way, 2, thing)
        self.fails(NoLook, {"look": 0}, told.shortest_way, 0, 1)
        self.same(told.shortest_way(2, 1), (0, 1, 2))


class StandsWithTest(Case):

    def test_one_asking(self):
        told = askings(Book.usual(), "q = all", "len q", "any q", "xs = list q", "len xs")
        self.same([told.stands_with(other, one) for other in (2, 3, 4) for one in (1, 2, 3) if one < other], [True] * 6)
        self.same(told.stands_with(other=1, one=2), None)
        self.same(told.stands_with(1, 1), None)

    def test_two_askings(self):
        told = askings(Book.usual(), "q = all", "count q", "len q", "any q")
        self.same([told.stands_with(2, 1), told.stands_with(3, 1), told.stands_with(3, 2)], [False, False, True])

    def test_another_asking_by_the_same_step(self):
        rows = ("q = all", "repeat", "len q", "end")
        self.same(askings(Book.usual(), *rows).stands_with(2, 2), True)
        self.same(askings(Book.fresh(), *rows).stands_with(2, 2), False)
        self.same(askings(Book.usual(), "repeat", "q = all", "len q", "end").stands_with(2, 2), False)

    def test_the_last_time_before(self):
        # xs is of the asking at step 2 of the last round.
        rows = ("q = all", "repeat", "xs = list q", "len xs", "end")
        told = askings(Book.fresh(), *rows)
        self.same([told.stands_with(3, 2), told.stands_with(2, 3), told.stands_with(3, 3)], [True, False, False])

    def test_in_each_run(self):
        rows = ("q = all", "len q", "either", "xs = list q", "or", "xs = q[?:?]", "end", "any xs")
        self.same(askings(Book.usual(), *rows).stands_with(5, 1), True)
        told = askings(Book(part="anew"), *rows)
        self.same([told.stands_with(5, at) for at in (1, 3, 4)], [False, True, True])

    def test_steps_of_different_branches(self):
        told = askings(Book.usual(), "q = all", "either", "len q", "or", "truth q", "end")
        self.same([told.stands_with(2, 3), told.stands_with(3, 2)], [None, None])
        told = askings(Book.usual(), "q = all", "repeat", "either", "len q", "or", "truth q", "end", "end")
        self.same([told.stands_with(3, 4), told.stands_with(4, 3)], [True, True])

    def test_two_questions(self):
        told = askings(Book.usual(), "q = all", "r = q", "len q", "len r", "xs = list q", "xs = list xs")
        self.same([told.stands_with(3, 2), told.stands_with(4, 2), told.stands_with(5, 3)], [False, True, False])

    def test_the_order_of_errors(self):
        told = askings(Book.usual(), "q = all", "len q")
        self.fails(NoLook, {"look": 0}, told.stands_with, 0, 5)
        self.fails(NoLook, {"look": 5}, told.stands_with, 1, 5)


class CountsTest(Case):

    def counts(self, book, *rows):
        told = askings(book, *rows)
        return [told.least(), told.most()]

    def test_straight(self):
        rows = ("q = all", "count q", "len q", "count q")
        self.same(self.counts(Book.usual(), *rows), [2, 2])
        self.same(self.counts(Book.plain(), *rows), [1, 1])
        self.same(self.counts(Book.fresh(), *rows), [3, 3])
        self.same(self.counts(Book.usual()), [0, 0])
        self.same(self.counts(Book.fresh(), "q = now all", "len q"), [1, 1])

    def test_updates_and_wipes_do_not_ask(self):
        self.same(self.counts(Book.fresh(), "q = all", "update q.a = ?", "update q.a += ?", "wipe q", "others"), [0, 0])

    def test_branches(self):
        rows = ("q = all", "either", "or", "count q", "or", "count q", "any q", "count q", "end", "len q")
        self.same(self.counts(Book.usual(), *rows), [1, 4])
        self.same(self.counts(Book.plain(), *rows), [1, 1])

    def test_loops(self):
        self.same(self.counts(Book.usual(), "q = all", "repeat", "len q", "end"), [0, 1])
        self.same(self.counts(Book.usual(), "q = all", "repeat", "count q", "end"), [0, None])
        self.same(self.counts(Book.usual(), "q = all", "repeat", "count q", "end", "len q"), [1, None])
        self.same(self.counts(Book.plain(), "repeat", "q = all", "end"), [0, None])
        self.same(self.counts(Book.usual(), "repeat", "q = all", "end"), [0, 0])
        self.same(self.counts(Book.usual(), "q = all", "repeat", "xs = list q", "len xs", "end"), [0, 1])

    def test_loops_in_which_each_question_asks_once(self):
        rows = ["b = all", "c = all", "d = all", "repeat", "either", "len b", "or", "len c", "or", "len d", "or",
                "count d",
                "end", "end"]
        self.same(self.counts(Book(count="keep"), *rows), [0, 3])
        self.same(self.counts(Book(), *rows), [0, None])

    def test_the_cheapest_way_is_not_the_shortest(self):
        rows = ("q = all", "either", "count q", "or", "others", "others", "others", "end", "repeat", "end")
        self.same(self.counts(Book.usual(), *rows), [0, 1])

    def test_way_asked(self):
        told = askings(Book.usual(), "q = all", "repeat", "count q", "len q", "end", "any q")
        for way, asked in (((), 0), ((0,), 0), ((0, 1), 0), ((0, 1, 2), 1), ((0, 1, 2, 3), 2), ((0, 1, 4), 1),
                           ((0, 1, 2, 3, 1, 2, 3, 1, 2), 2), ((0, 1, 2, 3, 1, 4), 2)):
            self.same([told.way_asked(way), told.way_asked(way=list(way))], [asked, asked])

    def test_things_that_are_no_ways(self):
        told = askings(Book.usual(), "q = all", "repeat", "count q", "len q", "end", "any q")
        for way, place in (((1,), 0), ((0, 0), 1), ((0, 2), 1), ((0, 1, 3), 2), ((0, 1, 2, 4), 3), ((0, 1, 4, 5), 3),
                           ((0, 1, 4, 0), 3), ((5,), 0), ((-1,), 0), ((0, 1, 2, 3, 1, 2, 2, None), 6)):
            self.fails(BadPick, {"pick": place}, told.way_asked, way)
            self.fails(BadPick, {"pick": place}, told.way_asked, list(way))
        for thing in ODD_VALUES + ["1", (0, 1), [1]]:
            self.fails(BadPick, {"pick": 0}, told.way_asked, [thing])
            self.fails(BadPick, {"pick": 1}, told.way_asked, (0, thing, 9))
        self.fails(BadPick, {"pick": 0}, askings(Book.usual()).way_asked, [0])


class WaysTest(Case):

    def test_ways(self):
        program = program_of("q = all", "repeat", "len q", "end", "any q")
        self.same(list(ways(program, 5)), [
            (), (0,), (0, 1), (0, 1, 2), (0, 1, 3), (0, 1, 2, 1), (0, 1, 2, 1, 2), (0, 1, 2, 1, 3)])
        self.same(list(ways(program=program, most=0)), [()])
        self.same(list(ways(program, 1)), [(), (0,)])

    def test_each_way_once(self):
        program = program_of("either", "or", "or", "others", "end", "others")
        self.same(list(ways(program, 8)), [(), (0,), (0, 1), (0, 2), (0, 1, 2)])
        self.same(list(ways(program_of("repeat", "end"), 3)), [(), (0,), (0, 0), (0, 0, 0)])

    def test_empty(self):
        self.same(list(ways(program_of(), 8)), [()])

    def test_order(self):
        program = program_of("repeat", "either", "others", "or", "repeat", "end", "or", "end", "end")
        told = list(ways(program, 8))
        self.same(told, sorted(set(told), key=lambda way: (len(way), way)))
        self.assertEqual(len([way for way in told if len(way) == 8]) > 20, True)

    def test_one_after_another(self):
        program = program_of("others", "others")
        told = ways(program, 2)
        self.same([next(told), next(told), next(told), next(told, None)], [(), (0,), (0, 1), None])


class RealWaysTest(Case):
    """All that Askings tells is what is found when all ways up to a length are really done."""

    def test_random_programs(self):
        weights = {"build": 1, "bind": 4, "look": 3, "block": 3, "others": 1}
        for seed in range(120):
            rows = [plain_building(text) for text in random_program(seed, 8, weights, ("a",)).rows]
            program, book = Program(rows, FORM), random_book(random.Random(seed))
            with self.subTest(f"{program}\n{book}"):
                self.agrees(Askings(program, book), Brute(program, book, 15))

    def agrees(self, told, brute):
        looks = [at for at, step in enumerate(told.program.steps) if step.source]
        for at in looks:
            known = brute.sources[at]
            self.same(told.sources(at), tuple(sorted(known)))
            for source in known:
                self.same(told.shortest_way(at, source), known[source])
            for one in looks:
                self.same(told.stands_with(at, one), brute.stands.get((at, one)))
        for way, asked in brute.asked.items():
            self.same(told.way_asked(way), asked)
        self.same(told.least(), min(brute.counts))
        if "repeat" not in told.program.rows:
            self.same(told.most(), max(brute.counts))


def plain_building(text):
    """The row, but with a condition that takes all rows, so that each asking can be told by its object."""
    name, sign, rest = text.partition(" = ")
    if sign == "" or "[" in rest or rest.startswith("list ") or rest == "?":
        return text
    return f"{name} = now all" if rest.startswith("now ") else f"{name} = all"
