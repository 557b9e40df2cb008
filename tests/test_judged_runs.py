"""What verdicts promise of real runs: programs that are judged the same show and leave the same (points 3 and 23)."""

import random

from latequestions.books import Book
from latequestions.errors import TooMany
from latequestions.forms import Form
from latequestions.goals import Goal, usual_goals
from latequestions.judging import judge
from latequestions.programs import Program
from latequestions.runs import Outside, perform
from latequestions.twins import Twin
from noticed import all_goals
from support import Case
from test_moves import CHOSEN
from twinned import Play, random_book, random_program

KEYS = (-1, 0, 1, 2)
WEIGHTS = {"build": 1, "bind": 3, "look": 3, "value": 4, "show": 4, "save": 5, "update": 1, "others": 3, "block": 2}


def drawn_run(chance, form):
    """Rows, filters and what comes from outside, with few values, so that many are equal by chance."""
    truth = {(name, value): chance.random() < 0.5 for name in form.filters_of() for value in range(12)}
    filters = {name: (lambda value, name=name: truth[name, value % 12]) for name in form.filters_of()}
    rows = {key: {field: chance.randrange(4) for field in form.fields} for key in KEYS if chance.random() < 0.7}
    deeds = [[drawn_deed(chance, form) for _ in range(chance.randrange(4))] for _ in range(6)]
    given = {(n, key): chance.randrange(4) for n in range(60) for key in KEYS}
    picks = [chance.randrange(2) for _ in range(chance.randrange(12))]
    choices = [chance.choice(KEYS) for _ in range(chance.randrange(4, 20))]
    cuts = [(chance.randrange(-2, 2), chance.randrange(0, 4)) for _ in range(chance.randrange(4, 20))]
    return rows, filters, Outside(picks, choices, cuts, deeds, value=lambda n, key: given[n, key])


def drawn_deed(chance, form):
    key = chance.choice(KEYS)
    return chance.choice([
        ("put", key, tuple([chance.randrange(4) for field in form.fields])), ("remove", key),
        ("write", key, chance.choice(form.fields), chance.randrange(4))])


def drawn_programs(seed):
    """A program and one that goes along with it, with two books: often ones that do the same."""
    chance = random.Random(seed)
    begin = [[], ["q = all", "x = q[?]"], ["q = all", "others", "x = q[?]"], ["q = all", "r = q", "len q", "others"]]
    program = random_program(seed, 9, WEIGHTS, begin=begin[seed % 4])
    if chance.random() < 0.2:
        program = program.calm()
    turnable = program.turnable() if chance.random() < 0.3 else []
    against = program.turned([row for row in turnable if chance.random() < 0.3])
    return chance, program, against, random_book(chance), random_book(chance)


def show_and_leave_the_same(case, chance, one, other):
    """Checks drawn runs of two pairs (program, book)."""
    for _ in range(12):
        rows, filters, outside = drawn_run(chance, one[0].form)
        shown, refused, left, asked, is_over = perform(one[0], rows, filters, one[1], outside)
        other_shown, refused, other_left, asked, other_is_over = perform(other[0], rows, filters, other[1], outside)
        case.same([shown, is_over], [other_shown, other_is_over])
        if is_over:
            case.same(left, other_left)


class JudgedTest(Case):

    def test_drawn_programs(self):
        counts = {True: 0, False: 0}
        for seed in range(400):
            chance, program, against, here, there = drawn_programs(seed)
            try:
                verdict = judge(program, here, there, against=against, most=1500)
            except TooMany:
                continue
            counts[bool(verdict)] += 1
            with self.subTest(seed):
                if verdict:
                    show_and_leave_the_same(self, chance, (program, here), (against, there))
                else:
                    self.part_as_told(program, against, here, there, verdict)
        self.assertTrue(min(counts.values()) > 40, counts)

    def part_as_told(self, program, against, here, there, verdict):
        """The run of the paper, made real: something else is shown, or other rows are left."""
        word, start, labels = verdict.paper
        play = Play(program, against, here, there, start, labels)
        play.worlds()
        one, other = play.twins.runs
        self.assertTrue(one.shown != other.shown or (one.is_over and one.store.told() != other.store.told()))

    def test_goals_that_no_run_reaches(self):
        """Drawn runs of twins: none of the goals of states that are never reached is seen."""
        for seed in range(120):
            chance, program, against, here, there = drawn_programs(seed)
            never = []
            for text in all_goals(program.form, ends=(False,)):
                if text.split(" ")[0] in Goal.STATES:
                    try:
                        if judge(program, here, there, goals=[Goal.read(text)], against=against, most=600):
                            never.append(text)
                    except TooMany:
                        break
            for _ in range(4):
                rows, filters, outside = drawn_run(chance, program.form)
                self.never_seen(Twin(program, rows, filters, here, there, outside, against=against), never)

    def never_seen(self, twin, never):
        for _ in range(60):
            for key in KEYS:
                at, here, there, masks = twin.world_of(key)
                seen = ["twice"] if len(here[2]) > 1 else []
                if here[0] and there[0]:
                    fields = twin.here.program.form.fields
                    seen += [f"differs {field}" for field, one, other in zip(fields, here[0], there[0]) if one != other]
                elif here[0] or there[0]:
                    seen.append("extra" if here[0] else "missing")
                self.assertEqual([text for text in seen if text in never], [])
            if twin.here.is_over or twin.here.is_waiting():
                return
            twin.step()

    def test_chosen_programs(self):
        """Programs that part are seen to part in drawn runs, too."""
        for text, *rows in CHOSEN:
            program = Program(rows, Form.read(text))
            verdict = judge(program, Book.usual(), Book.plain())
            parted = False
            chance = random.Random(1)
            for _ in range(200):
                drawn = drawn_run(chance, program.form)
                one = perform(program, *drawn[:2], Book.usual(), drawn[2])
                other = perform(program, *drawn[:2], Book.plain(), drawn[2])
                parted = parted or one[0] != other[0] or (one[4] and one[2] != other[2])
            self.same([rows, bool(verdict)], [rows, not parted])

    def test_the_usual_goals_are_those_of_the_promise(self):
        program = Program(["q = all", "x = q[?]", "x.a = ?"], Form.read("a"))
        verdict = judge(program, Book.usual(), Book.plain())
        # What is unsaved is neither shown nor left.
        self.same(bool(verdict), True)
        again = judge(program, Book.usual(), Book.plain(), goals=usual_goals(program.form))
        self.same(again.paper, verdict.paper)
