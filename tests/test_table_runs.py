"""Ways through tables and real runs on stores go the same way, for random programs, books and runs (point 22)."""

import random

from latequestions.errors import TooMany, Waiting
from latequestions.runs import Outside
from latequestions.worlds import Worlds
from support import Case
from twinned import WEIGHTS, Play, Twins, random_book, random_program

KEYS = (1, 2, 3, 4)


def random_table(seed, most_rows, most, weights=WEIGHTS, begin=()):
    """The table of a random program beside a random one that goes along, with the programs and books; or None."""
    chance = random.Random(seed)
    program = random_program(seed, most_rows, weights, begin=begin)
    against = program.turned([row for row in program.turnable() if chance.random() < 0.3])
    here, there = random_book(chance), random_book(chance)
    try:
        return Worlds(program, here, there, against=against, most=most), program, against, here, there
    except TooMany:
        return None


class TableRunsTest(Case):

    def test_each_way_through_a_table_is_that_of_real_runs(self):
        for seed in range(60):
            made = random_table(seed, 9, 300)
            if made is not None:
                with self.subTest(seed):
                    self.follow_table(random.Random(seed), *made)

    def follow_table(self, chance, table, *programs_and_books):
        ways = {world: (start, ()) for start, world in table.firsts()}
        for world in table.worlds():
            for label, behind in table.followers(world):
                start, labels = ways[world]
                ways.setdefault(behind, (start, (*labels, label)))
        worlds = table.worlds()
        for world in chance.sample(worlds, min(len(worlds), 20)):
            start, labels = ways[world]
            self.assertEqual(table.distance(world), len(labels))
            for label, behind in table.followers(world):
                play = Play(*programs_and_books, start, (*labels, label))
                self.same(play.worlds(), self.told_worlds(table, play.program, start, (*labels, label)))

    def told_worlds(self, table, program, start, labels):
        """The worlds of a run, but for those in the middle of an `others`."""
        told = [table.after(start, ())]
        world = told[0]
        for label in labels:
            before, world = world, dict(table.followers(world))[label]
            if program.steps[before[0]].kind != "others" or label == ("go",):
                told.append(world)
        self.same(table.after(start, labels), world)
        return told

    def test_real_runs_go_their_way_through_the_table(self):
        for seed in range(200):
            made = random_table(seed, 10, 3000)
            if made is not None:
                with self.subTest(seed):
                    self.follow_runs(random.Random(seed), *made)

    def follow_runs(self, chance, table, program, against, here, there):
        filters, rows = drawn_store(chance, program.form)
        outside = random_outside(chance, program.form)
        go_by_followers(self, Twins(program, against, here, there, rows, filters, outside), table, program, outside)


def drawn_store(chance, form):
    """Filters that are drawn as they are asked, and rows with equal values."""
    truth = {}

    def filter_of(name):
        return lambda value: truth.setdefault((name, value), chance.random() < 0.6)
    filters = {name: filter_of(name) for name in form.filters_of()}
    return filters, {key: {field: 1 for field in form.fields} for key in KEYS if chance.random() < 0.7}


def go_by_followers(case, twin, table, program, outside):
    """Checks that two runs go their way through the table for each key, until they are over or wait."""
    used = {"key": 0, "cut": 0, "list": 0}
    worlds = {key: twin.world_of(key) for key in KEYS}
    case.same([table.distance(worlds[key]) for key in KEYS], [0] * len(KEYS))
    while twin.at < len(program.steps):
        step = program.steps[twin.at]
        try:
            twin.step()
        except Waiting:
            return
        for key in KEYS:
            behind = twin.world_of(key)
            case.assertIn(behind, possible_worlds(table, step, worlds[key], key, outside, used))
            worlds[key] = behind
        kind = {"item": "key", "has": "key", "part": "cut", "others": "list"}.get(step.kind)
        if kind is not None:
            used[kind] += 1


def random_outside(chance, form):
    """Free values (point 23): powers of two, all different for each key and field."""
    powers = iter([2 ** at for at in range(1, 60)])
    deeds = []
    for _ in range(6):
        some = []
        for _ in range(chance.randrange(4)):
            key = chance.choice(KEYS)
            some.append(chance.choice([
                ("put", key, tuple([next(powers) for field in form.fields])), ("remove", key),
                ("write", key, chance.choice(form.fields), next(powers))]))
        deeds.append(some)
    picks = [chance.randrange(2) for _ in range(10)]
    choices = [chance.choice(KEYS) for _ in range(20)]
    cuts = [(chance.randrange(4), chance.randrange(2, 6)) for _ in range(20)]
    return Outside(picks, choices, cuts, deeds, value=lambda n, key: 2 ** (60 + n))


def possible_worlds(table, step, world, key, outside, used):
    """The followers by the labels that what comes from outside allows for a key."""
    if step.kind == "others":
        worlds = [world]
        lists = outside.deeds
        for deed in lists[used["list"]] if used["list"] < len(lists) else ():
            if deed[1] == key:
                worlds = [behind for one in worlds for behind in behind_deed(table, one, deed)]
        return [dict(table.followers(one))["go",] for one in worlds]
    followers = dict(table.followers(world))
    if step.kind in ("item", "has"):
        return [followers[int(outside.choices[used["key"]] == key),]]
    if step.kind == "part":
        low, high = outside.cuts[used["cut"]]
        return [followers[int(low <= key < high),]]
    return list(followers.values())


def behind_deed(table, world, deed):
    """The worlds behind a deed of others; the world itself if the deed has no label, as no store has the row."""
    followers = table.followers(world)
    if deed[0] != "put" and world[1][0] == () and world[2][0] == ():
        return [world]
    return [behind for label, behind in followers
            if label[0] == deed[0] and (deed[0] != "write" or label[1] == deed[2])]
