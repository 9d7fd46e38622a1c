"""[1] and [2] over the whole program: every door is there, and what is told through many of them goes together."""

import copy
import importlib
import inspect
import itertools
import random
import unittest

from huedties.blocks import blocks, cuts
from huedties.changecheck import shows_changed
from huedties.changes import least_changed
from huedties.desk import run
from huedties.errors import BadRow, NoFan, NoPlace, NoRow, NoStep, NoTie, NotTwoSides, ShortList, TooFew
from huedties.even import evened, sizes, spread
from huedties.fans import all_hued, fan_of, hued_in, turning
from huedties.fewcheck import shows_fewer, shows_fewest
from huedties.fewest import fewest
from huedties.gluing import by_blocks, glued, shows_blocks
from huedties.halving import halves
from huedties.hueings import clash_of, classes, free_at, hues_at, is_hueing, is_whole, simplest
from huedties.listcheck import shows_filled, shows_lists
from huedties.lists import filled, from_lists
from huedties.pairings import full_pairing, pairing, shows_pairing
from huedties.rounds import hosts, plan, robin, shows_plan
from huedties.rows import exchanged, row_from, rows_of
from huedties.sides import shows_sides, two_sides
from huedties.story import done_step, played
from huedties.tied import Tied
from huedties.twosided import by_halves, by_pairings, by_rows
from huedties.webs import count_at, far_end, is_web, most_at, only, parts, thickest, ties_at, within
from huedties.wishes import by_wishes, settled_pairs

from samples import (ALIKE, FIVE, MINGLED, NAMED, PATH, PETERSEN, SIDED, SQUARE, STAR, TRIANGLE, Asking, chance_web, enough,
                     grown_web, hueing_of, is_good, joined_webs, lists_in, sided_web, small_webs, spoil, told)

# How many things each function takes.
DOORS = {
    "webs": {"is_web": 1, "ties_at": 2, "count_at": 2, "most_at": 1, "thickest": 1, "far_end": 3, "parts": 1, "only": 2,
             "within": 2},
    "sides": {"two_sides": 1, "shows_sides": 2},
    "hueings": {"is_hueing": 2, "is_whole": 2, "clash_of": 2, "hues_at": 3, "free_at": 4, "classes": 2, "simplest": 1},
    "rows": {"row_from": 5, "rows_of": 4, "exchanged": 5},
    "story": {"done_step": 3, "played": 3},
    "fans": {"fan_of": 5, "turning": 3, "hued_in": 4, "all_hued": 2},
    "pairings": {"pairing": 1, "shows_pairing": 2, "full_pairing": 1},
    "halving": {"halves": 1},
    "twosided": {"by_rows": 1, "by_pairings": 1, "by_halves": 1},
    "fewcheck": {"shows_fewer": 3, "shows_fewest": 2},
    "fewest": {"fewest": 1},
    "lists": {"from_lists": 2, "filled": 3},
    "listcheck": {"shows_lists": 3, "shows_filled": 4},
    "wishes": {"by_wishes": 2, "settled_pairs": 3},
    "even": {"sizes": 2, "evened": 3, "spread": 2},
    "changes": {"least_changed": 3},
    "changecheck": {"shows_changed": 4},
    "rounds": {"plan": 2, "shows_plan": 3, "robin": 1, "hosts": 1},
    "blocks": {"cuts": 1, "blocks": 1},
    "gluing": {"glued": 2, "by_blocks": 1, "shows_blocks": 2},
    "desk": {"run": 1},
}
DEEDS = {"come": 2, "go": 1, "hue_of": 1, "ties": 0, "limit": 0, "settle": 0, "undo": 0, "web_now": 0}

HUED = [0, 1, 0, None]
DEAR = ("dear",)

# A question to each function that tells something, and some with more than one kind of answer.
QUESTIONS = [
    (ties_at, MINGLED, 4), (count_at, MINGLED, 4), (most_at, MINGLED), (thickest, ALIKE), (far_end, MINGLED, 6, 4),
    (parts, MINGLED), (only, MINGLED, [6, 0, 3]), (within, MINGLED, [0, 2, 4]), (two_sides, SQUARE), (two_sides, FIVE),
    (clash_of, SQUARE, [0, 1, 1, 0]), (hues_at, SQUARE, HUED, 1), (free_at, SQUARE, HUED, 1, 4), (classes, HUED, 3),
    (simplest, [5, None, 3, 5]), (row_from, PATH, [0, 1, 0], 0, 0, 1), (rows_of, SQUARE, HUED, 0, 1),
    (exchanged, SQUARE, HUED, [0, 1, 2], 0, 1), (done_step, SQUARE, HUED, ("hue", 3, 2)),
    (played, SQUARE, HUED, [("hue", 3, 2), ("drop", 0), ("move", 3, 0)]), (fan_of, SQUARE, HUED, 3, 0, 3),
    (turning, [(3, None), (0, 0)], 1, 2), (hued_in, SQUARE, HUED, 3, 3), (hued_in, SQUARE, [0, 1, 0, 1], 3, 3),
    (all_hued, MINGLED, 4), (pairing, PATH), (full_pairing, PATH), (halves, STAR), (by_rows, SQUARE), (by_pairings, SQUARE),
    (by_halves, SQUARE), (fewest, MINGLED), (fewest, PETERSEN), (from_lists, PATH, [[0, 1], [0], [0, 3]]),
    (from_lists, PATH, [[0], [0, 1], [1]]), (filled, SQUARE, HUED, 2), (filled, PATH, [0, None, 1], 2),
    (by_wishes, SQUARE, [[0, 1], [1, 2], [0, 2], [0, 1]]), (settled_pairs, SQUARE, [0, 1, 3], [0, 1, 0, 1]),
    (sizes, [0, 1, 0], 3), (evened, (6, ((0, 1), (2, 3), (4, 5))), [0, 0, 0], 2), (spread, MINGLED, 4),
    (least_changed, PATH, [0, None, 1], 2), (least_changed, TRIANGLE, [0, 1, None], 2), (least_changed, PATH, [0, 1, 0], 2),
    (plan, SQUARE, 1), (plan, MINGLED, 2), (robin, 5), (hosts, MINGLED), (cuts, MINGLED), (blocks, MINGLED),
    (glued, MINGLED, [[0, 1, 2], [2, 1, 0], [0]]), (by_blocks, MINGLED), (by_blocks, PETERSEN),
    (run, "places 3\ncome 0 1\nties\nblocks"),
]

# Of each checker something that it takes, and something that it denies.
CHECKED = [
    (is_web, [SQUARE], [[4, ()]]), (shows_sides, [SQUARE, ("sides", [0, 1, 0, 1])], [SQUARE, ("sides", [1, 0, 1, 0])]),
    (is_hueing, [SQUARE, HUED], [SQUARE, [0, 0, None, 1]]), (is_whole, [SQUARE, [0, 1, 0, 1]], [SQUARE, HUED]),
    (shows_pairing, [PATH, ([0, 2], [1, 2])], [PATH, ([0, 1], [1, 2])]),
    (shows_fewer, [TRIANGLE, 2, ("set", (0, 1, 2))], [TRIANGLE, 3, ("set", (0, 1, 2))]),
    (shows_fewest, [STAR, (4, [0, 1, 2, 3], ("place", 0))], [STAR, (4, [0, 1, 2, 3], ("place", 1))]),
    (shows_lists, [PATH, [[0], [1], [0]], ("hueing", [0, 1, 0])], [PATH, [[0], [1], [2]], ("hueing", [0, 1, 0])]),
    (shows_filled, [PATH, [0, None, 1], 2, ("none", (1, ((0, ()), (2, ()))))], [PATH, [0, None, 1], 2, ("none", (1, ()))]),
    (shows_changed, [PATH, [0, None, 1], 2, ("least", 1, [0, 1, 0], ("try", 1, (DEAR, DEAR)))],
     [PATH, [0, None, 1], 2, ("least", 1, [0, 1, 0], DEAR)]),
    (shows_plan, [SQUARE, 2, [[0, 2], [1, 3]]], [SQUARE, 1, [[0, 2], [1, 3]]]),
    (shows_blocks, [PATH, (2, [0, 1, 0], ("place", 1))], [PATH, (2, [0, 1, 0], ("place", 0))]),
]

# Each refusal; where several are due the one told first goes.
REFUSED = [
    (NoPlace, ties_at, MINGLED, 8), (NoPlace, count_at, MINGLED, -1), (NoTie, far_end, MINGLED, 7, 0),
    (NoPlace, far_end, MINGLED, 0, 0), (NoTie, far_end, MINGLED, -1, 99), (NoTie, only, MINGLED, [0, 7]),
    (NoPlace, hues_at, SQUARE, HUED, 4), (NoPlace, free_at, SQUARE, HUED, 4, 3),
    (NoPlace, row_from, SQUARE, HUED, 4, 0, 0), (NoRow, row_from, SQUARE, HUED, 1, 0, 1), (NoRow, row_from, SQUARE, HUED, 1, 5, 5),
    (NoRow, rows_of, SQUARE, HUED, 1, 1), (NoRow, exchanged, SQUARE, HUED, [0], 1, 1), (NoRow, exchanged, SQUARE, HUED, [3], 0, 1),
    (NoRow, exchanged, SQUARE, HUED, [0], 0, 1), (NoStep, done_step, SQUARE, HUED, ("hue", 3, 0)),
    (NoStep, played, SQUARE, HUED, [("drop", 0), ("drop", 0)]), (NoTie, fan_of, SQUARE, HUED, 4, 9, 3),
    (NoPlace, fan_of, SQUARE, HUED, 0, 2, 3), (NoFan, fan_of, SQUARE, HUED, 0, 0, 3), (NoTie, hued_in, SQUARE, HUED, 4, 0),
    (TooFew, hued_in, SQUARE, HUED, 3, 2), (TooFew, hued_in, SQUARE, HUED, 0, 2), (TooFew, all_hued, MINGLED, 3),
    (TooFew, spread, MINGLED, 3), (NotTwoSides, pairing, FIVE), (NotTwoSides, full_pairing, FIVE), (NotTwoSides, halves, FIVE),
    (NotTwoSides, by_rows, FIVE), (NotTwoSides, by_pairings, FIVE), (NotTwoSides, by_halves, FIVE),
    (NotTwoSides, by_wishes, FIVE, [[]] * 5), (ShortList, by_wishes, SQUARE, [[0, 1], [0], [0, 1], []]),
    (NotTwoSides, settled_pairs, FIVE, [0], [0] * 5), (NoPlace, Tied(3).come, 0, 3), (NoPlace, Tied(3).come, 1, 1),
    (NoTie, Tied(3).go, 0), (NoTie, Tied(3).hue_of, 0), (BadRow, run, "places 3\nties 0"), (BadRow, run, ""),
]


class Doors(Asking):

    def test_each_is_there(self):
        for name, doors in DOORS.items():
            module = importlib.import_module(f"huedties.{name}")
            for door, count in doors.items():
                self.assertEqual(len(inspect.signature(getattr(module, door)).parameters), count, (name, door))
        for deed, count in DEEDS.items():
            self.assertEqual(len(inspect.signature(getattr(Tied(1), deed)).parameters), count, deed)

    def test_each_is_asked_here(self):
        asked = {deed.__name__ for deed, *things in QUESTIONS} | {deed.__name__ for deed, right, wrong in CHECKED}
        self.assertEqual(asked, {door for doors in DOORS.values() for door in doors})

    def test_what_is_told_is_the_asker_s_own(self):
        for deed, *things in QUESTIONS:
            with self.subTest(deed=deed.__name__):
                self.ask(deed, *things)

    def test_nothing_handed_in_is_kept(self):
        for deed, *things in QUESTIONS:
            with self.subTest(deed=deed.__name__):
                handed = copy.deepcopy(things)
                answer = deed(*handed)
                kept = told(answer)
                spoil(handed)
                self.assertEqual(told(answer), kept)
                self.assertEqual(told(deed(*copy.deepcopy(things))), kept)

    def test_the_same_is_told_behind_all_others(self):
        before = [told(deed(*things)) for deed, *things in QUESTIONS]
        for deed, *things in reversed(QUESTIONS):
            spoil(deed(*things))
        self.assertEqual([told(deed(*things)) for deed, *things in QUESTIONS], before)

    def test_lists_in_the_place_of_pairs(self):
        # A fan is told as a list of pairs; handed in they may be lists.
        self.assertEqual(self.ask(turning, [[3, None], [0, 0], [1, 1]], 2, 5), turning([(3, None), (0, 0), (1, 1)], 2, 5))

    def test_checkers(self):
        for deed, right, wrong in CHECKED:
            with self.subTest(deed=deed.__name__):
                self.assertIs(self.truth(deed, *right), True)
                self.assertIs(self.truth(deed, *wrong), False)

    def test_refusals(self):
        for kind, deed, *things in REFUSED:
            with self.subTest(deed=deed.__name__, kind=kind.__name__):
                self.refused(kind, deed, *things)
                self.refused(kind, deed, *things)

    def test_fields_of_refusals(self):
        self.assertEqual(self.refused(NoStep, done_step, SQUARE, HUED, ("hue", 3, 0)).place, 0)
        self.assertEqual(self.refused(NoStep, played, SQUARE, HUED, [("drop", 0), ("drop", 0)]).place, 1)
        self.assertEqual(self.refused(ShortList, by_wishes, SQUARE, [[0, 1], [0], [0, 1], []]).tie, 1)
        self.assertEqual(self.refused(BadRow, run, "places 3\n\nties 0").line, 2)
        for deed in (pairing, full_pairing, halves, by_rows, by_pairings, by_halves):
            self.unsided(deed, FIVE)
        self.unsided(by_wishes, FIVE, [[0]] * 5)
        self.unsided(settled_pairs, FIVE, [0], [0] * 5)


def small_enough(web, ties):
    return len(web[1]) <= ties and len({place for tie in web[1] for place in tie}) <= 12


def as_hueing(web, rows):
    """The hueing in which each row of ties has a hue."""
    hueing = [None] * len(web[1])
    for hue, row in enumerate(rows):
        for tie in row:
            hueing[tie] = hue
    return hueing


def tied_web(web):
    """A Tied to which the ties of a web came."""
    tied = Tied(web[0])
    for one, other in web[1]:
        tied.come(one, other)
    return tied


class OneWeb(Asking):

    def whole_below(self, web, hueing, hues):
        self.assertTrue(is_good(web, hueing), (web, hueing))
        self.assertTrue(is_whole(web, hueing))
        self.assertTrue(all(hue < hues for hue in hueing), (web, hueing, hues))

    def any_web(self, web):
        """What is told of webs of any size."""
        hues = enough(web)
        self.assertEqual(hues, most_at(web) + thickest(web))
        hueing, steps = all_hued(web, hues)
        self.whole_below(web, hueing, hues)
        self.assertEqual(([[None] * len(web[1])] + played(web, [None] * len(web[1]), steps))[-1], hueing)
        even, rows = evened(web, hueing, hues)
        self.whole_below(web, even, hues)
        self.assertEqual(sorted(sizes(even, hues)), sorted(sizes(spread(web, hues), hues)))
        tied = tied_web(web)
        self.assertEqual(tied.web_now(), (web, list(range(len(web[1])))))
        self.assertEqual(tied.limit(), hues)
        self.whole_below(web, [tied.hue_of(tie) for tie in range(len(web[1]))], hues)
        rounds = plan(web, 100)
        self.assertTrue(shows_plan(web, 100, rounds))
        self.whole_below(web, as_hueing(web, rounds), max(len(rounds), 1))
        rows = blocks(web)
        parts_of_blocks = [hueing_of(only(web, row), at) for at, row in enumerate(rows)]
        glue = glued(web, parts_of_blocks)
        self.whole_below(web, glue, max([most_at(web)] + [hue + 1 for row in parts_of_blocks for hue in row]))
        for row, own in zip(rows, parts_of_blocks):
            self.assertEqual(simplest([glue[tie] for tie in row]), simplest(own))
        owners = hosts(web)
        for place in range(web[0]):
            self.assertLessEqual(abs(2 * owners.count(place) - count_at(web, place)), 1)
        for place in range(web[0]):
            self.assertEqual(place in cuts(web), len([row for row in rows if set(row) & set(ties_at(web, place))]) > 1)
        return rounds

    def sided(self, web, rounds):
        """What is told of webs of two sides."""
        most = most_at(web)
        for hueing in (by_rows(web)[0], by_halves(web), as_hueing(web, by_pairings(web))):
            self.whole_below(web, hueing, most)
        self.assertEqual(len(by_pairings(web)), most)
        self.assertEqual(len(rounds), most)
        self.assertTrue(shows_pairing(web, pairing(web)))
        for row in by_pairings(web):
            self.assertLessEqual(len(row), len(pairing(web)[0]))
        wishes = [list(range(tie % 3, tie % 3 + most)) for tie in range(len(web[1]))]
        hueing = by_wishes(web, wishes)
        self.assertTrue(is_whole(web, hueing))
        self.assertTrue(all(hue in hues for hue, hues in zip(hueing, wishes)))

    def small(self, web, rounds):
        """What is told of webs that fewest is asked of; tells the number."""
        answer = fewest(web)
        glue = by_blocks(web)
        number = answer[0]
        self.assertTrue(shows_fewest(web, answer))
        self.assertTrue(shows_blocks(web, glue))
        self.assertEqual(glue[0], number)
        self.whole_below(web, answer[1], number)
        self.whole_below(web, glue[1], number)
        self.assertLessEqual(most_at(web), number)
        self.assertLessEqual(number, enough(web))
        self.assertLessEqual(number, len(rounds))
        for hues in range(max(number - 1, 0), min(number + 2, 6)):
            lists = [list(range(hues))] * len(web[1])
            nothing = [None] * len(web[1])
            for told_here, shows, things in [(from_lists(web, lists), shows_lists, (lists,)),
                                             (filled(web, nothing, hues), shows_filled, (nothing, hues))]:
                self.assertTrue(shows(web, *things, told_here))
                self.assertEqual(told_here[0], "hueing" if hues >= number else "none")
            if len(web[1]) <= 9:
                changed = least_changed(web, nothing, hues)
                self.assertTrue(shows_changed(web, nothing, hues, changed))
                self.assertEqual(changed[0], "least" if hues >= number else "none")
        if number > 0:
            # The hues of one door, through another one.
            self.assertTrue(shows_filled(web, [None] * len(web[1]), number, ("hueing", glue[1])))
            self.assertFalse(shows_filled(web, [None] * len(web[1]), number - 1, ("hueing", glue[1])))
            self.assertTrue(shows_fewer(web, number - 1, answer[2]))
            self.assertFalse(shows_fewer(web, number, answer[2]))
        return number

    def kept(self, web, number):
        """What is told of a whole hueing with some ties hued otherwise: what filled keeps takes no changes."""
        hueing = [hue if tie % 2 else None for tie, hue in enumerate(fewest(web)[1])]
        word, whole = filled(web, hueing, number)
        self.assertEqual(word, "hueing")
        self.assertEqual(least_changed(web, hueing, number)[:2], ("least", 0))
        self.assertTrue(shows_changed(web, hueing, number, ("least", 0, whole, DEAR)))

    def desk(self, web, number):
        rows = [f"places {web[0]}"] + [f"come {one} {other}" for one, other in web[1]]
        answers = run("\n".join(rows + ["limit", "most", "fewest", "ties", "rounds 99", "blocks", "cuts", "sides", "pairs"]))
        answers = answers[len(web[1]):]
        self.assertEqual(answers[:2], [str(enough(web)), str(most_at(web))])
        if number is not None:
            self.assertEqual(answers[2], str(number))
        word, row = two_sides(web)
        self.assertEqual(answers[-2], "ring" if word == "ring" else " ".join(map(str, row)) or "-")
        self.assertEqual(answers[-1], "ring" if word == "ring" else str(len(pairing(web)[0])))
        for answer, lists in ((answers[3], tied_web(web).ties()), (answers[4], plan(web, 99)), (answers[5], blocks(web))):
            self.assertEqual(answer, " ; ".join([" ".join(map(str, row)) for row in lists]) or "-")
        self.assertEqual(answers[6], " ".join(map(str, cuts(web))) or "-")

    def check(self, web):
        rounds = self.any_web(web)
        word, row = two_sides(web)
        self.assertTrue(shows_sides(web, (word, row)))
        if word == "sides":
            self.sided(web, rounds)
        number = None
        if small_enough(web, 16):
            number = self.small(web, rounds)
            if word == "sides":
                self.assertEqual(number, most_at(web))
        if small_enough(web, 9) and number <= 5:
            self.kept(web, number)
        if len(web[1]) <= 60:
            self.desk(web, number)

    def test_named_webs(self):
        for web in NAMED:
            self.check(web)

    def test_webs_of_two_sides(self):
        for web in SIDED:
            self.check(web)

    def test_joined_webs(self):
        for web in joined_webs():
            self.check(web)

    def test_webs_by_chance(self):
        for seed in range(30):
            dice = random.Random(seed)
            self.check(chance_web(seed, dice.randrange(3, 13), dice.randrange(1, 17)))
            self.check(sided_web(seed, 3, dice.randrange(1, 8), dice.randrange(1, 17)))
            self.check(chance_web(seed, dice.randrange(4, 8), dice.randrange(5, 10), 6))
            self.check(grown_web(seed, dice.randrange(5, 61)))

    def test_small_webs(self):
        for web in itertools.islice(small_webs(4, 3), 0, None, 3):
            self.check(web)

    def test_everyday_size(self):
        self.any_web(chance_web(70, 30, 90))
        self.any_web(grown_web(71, 90))

    def test_lists_told_by_one_tied_are_unlike(self):
        tied = tied_web(TRIANGLE)
        answers = [tied.ties(), tied.web_now(), tied.ties(), tied.web_now(), tied.come(0, 1), tied.settle()]
        marks = [id(found) for found in lists_in(answers)]
        self.assertEqual(len(set(marks)), len(marks))


if __name__ == "__main__":
    unittest.main()
