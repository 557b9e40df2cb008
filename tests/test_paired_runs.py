"""Pairs and real runs: random pairs of programs against the oracle, and what comparisons promise (points 3, 30, 31)."""

import random

from latequestions.errors import LateError, TooMany
from latequestions.judging import judge
from latequestions.pairs import compare, is_comparison
from latequestions.programs import Program
from paired import PairPlay
from support import Case
from test_judged_runs import show_and_leave_the_same
from twinned import random_book, random_program

BEGINS = ([], ["q = all", "x = q[?]"], ["q = all", "others", "x = q[?]"], ["q = all", "r = q", "len q", "others"])
ALIKE = {"len": "count", "count": "len", "truth": "any", "any": "truth"}


def drawn_pair(seed, most_rows=8):
    """A program and one that was made of it by some changes, with two books."""
    chance = random.Random(seed)
    program = random_program(seed, most_rows, begin=BEGINS[seed % 4])
    other = program
    for _ in range(chance.randrange(4)):
        try:
            other = Program(changed_rows(chance, list(other.rows), program.form), program.form)
        except LateError:
            continue
    here = random_book(chance)
    return chance, program, other, here, here if chance.random() < 0.6 else random_book(chance)


def changed_rows(chance, rows, form):
    at = chance.randrange(len(rows))
    row = rows[at]
    how = chance.randrange(7)
    field = chance.choice(form.fields)
    if how == 0 and row.split(" ")[0] in ALIKE:
        word, rest = row.split(" ", 1)
        return [*rows[:at], f"{ALIKE[word]} {rest}", *rows[at + 1:]]
    if how == 1:
        return [*rows[:at], row, row, *rows[at + 1:]]
    if how == 2:
        new = chance.choice(["zs = list q", "reread x", "save x touched", "save x", "wipe q", f"save x by {field}"])
        return [*rows[:at + 1], new, *rows[at + 1:]]
    if how == 3 and at + 1 < len(rows):
        return [*rows[:at], rows[at + 1], row, *rows[at + 2:]]
    if how == 4:
        return [one.replace("x.", "y.").replace("x =", "y =").replace(" x", " y") for one in rows]
    if how == 5 and at > 0:
        return [*rows[:at], *rows[at + 1:]]
    if "?" in row and "." in row and how == 6:
        return [*rows[:at], row.replace(" = ", " += ") if " = " in row else row.replace(" += ", " = "), *rows[at + 1:]]
    return rows


class PairedTest(Case):

    def test_followers_and_partings_are_those_of_real_runs(self):
        met = set()
        for seed in range(160):
            chance, one, other, here, there = drawn_pair(seed)
            try:
                comparison = compare(one, here, other, there, most=400)
            except TooMany:
                continue
            with self.subTest(seed):
                met |= self.follow(chance, comparison, (one, other), (here, there))
        self.assertEqual(met, {"", "rhythm", "shown", "end"})

    def follow(self, chance, comparison, programs, books):
        ways = {}
        for start, pair in comparison.beginnings():
            ways.setdefault(pair, (start, ()))
            self.same(PairPlay(programs, books, start, ()).go(), pair)
        pairs = list(ways)
        for pair in pairs:
            for label, behind in comparison.followers(pair):
                if behind not in ways:
                    ways[behind] = (ways[pair][0], (*ways[pair][1], label))
                    pairs.append(behind)
        self.check_paper(comparison, pairs, ways)
        met = set()
        for pair in chance.sample(pairs, min(len(pairs), 12)):
            start, labels = ways[pair]
            play = PairPlay(programs, books, start, labels)
            if play.go() != pair:
                continue  # in the middle of an `others`
            how = play.parted()
            met.add(how)
            self.same(comparison.parted(pair), how)
            followers = comparison.followers(pair)
            if how or pair[0] == len(programs[0].steps):
                self.same(followers, [])
                continue
            play = PairPlay(programs, books, start, labels)
            play.go()
            self.same([label for label, behind in followers], play.labels_here())
            for label, behind in followers:
                if label[:1] not in (("put",), ("write",), ("remove",)):
                    self.same(PairPlay(programs, books, start, (*labels, label)).go(), behind)
                else:
                    more = (*labels, label, ("go",))
                    self.same(PairPlay(programs, books, start, more).go(), dict(comparison.followers(behind))["go",])
        return met

    def check_paper(self, comparison, pairs, ways):
        parted = [len(ways[pair][1]) for pair in pairs if comparison.parted(pair)]
        self.same(bool(comparison), not parted)
        if parted:
            word, start, labels, how = comparison.paper
            self.same([word, len(labels), len(comparison)], ["part", min(parted), min(parted)])
        else:
            self.same([comparison.paper[0], len(comparison)], ["alike", len(pairs)])
            self.assertEqual(sorted(comparison.paper[1], key=repr), sorted(pairs, key=repr))

    def test_alike_programs_show_and_leave_the_same(self):
        counts = {True: 0, "rhythm": 0, "shown": 0, "end": 0}
        for seed in range(500):
            chance, one, other, here, there = drawn_pair(seed, 9)
            try:
                comparison = compare(one, here, other, there)
            except TooMany:
                continue
            with self.subTest(seed):
                if comparison:
                    counts[True] += one.rows != other.rows
                    show_and_leave_the_same(self, chance, (one, here), (other, there))
                else:
                    counts[comparison.paper[3]] += 1
                    self.part_as_told(comparison)
        self.assertTrue(min(counts.values()) > 20, counts)

    def part_as_told(self, comparison):
        one, other = comparison.realised().played()
        how = comparison.paper[3]
        if how == "shown":
            self.assertNotEqual(one[0], other[0])
        if how == "end":
            self.assertNotEqual(one[2], other[2])
            self.same([one[4], other[4], one[0]], [True, True, other[0]])

    def test_one_program_under_two_books(self):
        """It is alike if and only if it is judged the same by the usual goals."""
        counts = {True: 0, False: 0}
        for seed in range(300):
            chance = random.Random(seed)
            program = random_program(seed, 9, begin=BEGINS[seed % 4])
            against = program.turned([row for row in program.turnable() if chance.random() < 0.2])
            here, there = random_book(chance), random_book(chance)
            try:
                verdict = judge(program, here, there, against=against)
                comparison = compare(program, here, against, there)
            except TooMany:
                continue
            self.same([seed, bool(comparison)], [seed, bool(verdict)])
            counts[bool(verdict)] += 1
            self.same(is_comparison(program, here, against, there, comparison.paper), True)
        self.assertTrue(min(counts.values()) > 30, counts)
