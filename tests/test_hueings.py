"""[5]: hueings."""

import itertools
import unittest

from huedties.errors import NoPlace
from huedties.hueings import clash_of, classes, free_at, hues_at, is_hueing, is_whole, simplest

from samples import (ALIKE, APART, LONE, MINGLED, NAMED, NOTHING, ODD_THINGS, ONE_TIE, PATH, STAR, TRIANGLE, TWO_ALIKE,
                     Asking, greater_webs, hueing_of, is_good, meet, small_webs)


class IsHueing(Asking):

    def both(self, web, thing):
        return (self.truth(is_hueing, web, thing), self.truth(is_whole, web, thing))

    def test_ordinary(self):
        self.assertEqual(self.both(PATH, [0, 1, 0]), (True, True))
        self.assertEqual(self.both(PATH, (0, 1, 0)), (True, True))
        self.assertEqual(self.both(PATH, [0, None, 0]), (True, False))
        self.assertEqual(self.both(PATH, [None, None, None]), (True, False))
        self.assertEqual(self.both(PATH, (None, None, 5)), (True, False))
        self.assertEqual(self.both(PATH, [0, 0, 1]), (False, False))
        self.assertEqual(self.both(ALIKE, [0, 1, 0]), (False, False))
        self.assertEqual(self.both(ALIKE, [0, 1, 2]), (True, True))
        self.assertEqual(self.both(PATH, [10 ** 50, 0, 10 ** 50]), (True, True))
        self.assertEqual(self.both(PATH, [10 ** 50, 10 ** 50, 0]), (False, False))

    def test_without_ties(self):
        for web in (NOTHING, LONE, APART):
            self.assertEqual(self.both(web, []), (True, True))
            self.assertEqual(self.both(web, ()), (True, True))
            self.assertEqual(self.both(web, [None]), (False, False))
            self.assertEqual(self.both(web, [0]), (False, False))

    def test_wrong_things(self):
        for row in ([0, 1], [0, 1, 0, 1], [0, 1, 0, None], [0, 1, True], [False, 1, 2], [-1, 0, 1], [0, 1, -10 ** 30],
                    [0, "1", 2], [0, [1], 2], [0, (1,), 2], [(), (), ()], "010", None, 3, True, [[0, 1, 0]], ([0, 1, 0],)):
            self.assertEqual(self.both(PATH, row), (False, False), row)

    def test_each_row_of_small_webs(self):
        for web in small_webs():
            for row in itertools.product((None, 0, 1, 2), repeat=len(web[1])):
                good = is_good(web, list(row))
                self.assertIs(is_hueing(web, list(row)), good)
                self.assertIs(is_hueing(web, row), good)
                self.assertIs(is_whole(web, row), good and None not in row)

    def test_greater_webs(self):
        for web in greater_webs():
            self.assertEqual(self.both(web, hueing_of(web, 1)), (True, True))
            self.assertEqual(self.both(web, hueing_of(web, 2, gaps=4)), (True, False))

    def test_odd_things(self):
        for web in NAMED:
            for thing in ODD_THINGS:
                expected = isinstance(thing, (list, tuple)) and is_good(web, list(thing))
                self.assertEqual(self.both(web, thing), (expected, expected and None not in thing), (web, thing))


class ClashOf(Asking):

    def test_ordinary(self):
        self.assertIsNone(self.ask(clash_of, PATH, [0, 1, 0]))
        self.assertIsNone(self.ask(clash_of, PATH, [None, None, None]))
        self.assertIsNone(self.ask(clash_of, NOTHING, []))
        self.assertEqual(self.ask(clash_of, PATH, [1, 0, 0]), (1, 2))
        self.assertEqual(self.ask(clash_of, STAR, [3, 1, 3, 1]), (0, 2))
        self.assertEqual(self.ask(clash_of, STAR, [0, 1, 1, 0]), (0, 3))
        self.assertEqual(self.ask(clash_of, STAR, [2, 2, 2, 2]), (0, 1))
        self.assertEqual(self.ask(clash_of, TWO_ALIKE, [7, None, 7]), (0, 2))
        # Ties 1 and 2 clash ahead of 0 and 3, yet 0 is the first that clashes.
        self.assertEqual(self.ask(clash_of, (6, ((0, 1), (2, 3), (3, 4), (1, 5))), [0, 0, 0, 0]), (0, 3))

    def test_each_row_of_small_webs(self):
        webs = itertools.chain(small_webs(4, 3), [MINGLED, (5, ((0, 4), (1, 2), (2, 3), (1, 4), (0, 3)))])
        for web in webs:
            hues = (None, 0, 1) if len(web[1]) > 3 else (None, 0, 1, 2)
            for row in itertools.product(hues, repeat=len(web[1])):
                clashes = [(one, other) for one, other in itertools.combinations(range(len(row)), 2)
                           if row[one] is not None and row[one] == row[other] and meet(web, one, other)]
                self.assertEqual(clash_of(web, list(row)), clashes[0] if clashes else None)


class AtPlaces(Asking):

    def test_hues_at(self):
        self.assertEqual(self.ask(hues_at, STAR, [9, 0, None, 4], 0), [0, 4, 9])
        self.assertEqual(self.ask(hues_at, STAR, [9, 0, None, 4], 3), [])
        self.assertEqual(self.ask(hues_at, STAR, [9, 0, None, 4], 4), [4])
        self.assertEqual(self.ask(hues_at, ALIKE, [2, 1, 0], 1), [0, 1, 2])
        self.assertEqual(self.ask(hues_at, LONE, [], 0), [])

    def test_free_at(self):
        self.assertEqual(self.ask(free_at, STAR, [9, 0, None, 4], 0, 6), [1, 2, 3, 5])
        self.assertEqual(self.ask(free_at, STAR, [9, 0, None, 4], 0, 10), [1, 2, 3, 5, 6, 7, 8])
        self.assertEqual(self.ask(free_at, STAR, [9, 0, None, 4], 3, 3), [0, 1, 2])
        self.assertEqual(self.ask(free_at, STAR, [9, 0, None, 4], 0, 0), [])
        self.assertEqual(self.ask(free_at, STAR, [9, 0, None, 4], 0, 1), [])
        self.assertEqual(self.ask(free_at, LONE, [], 0, 200), list(range(200)))

    def test_every_place(self):
        for web in NAMED + list(greater_webs()):
            hueing = hueing_of(web, 3, gaps=2)
            for place in range(web[0]):
                there = {hueing[k] for k, tie in enumerate(web[1]) if place in tie} - {None}
                self.assertEqual(hues_at(web, hueing, place), sorted(there))
                for hues in (0, 1, 3, 8):
                    self.assertEqual(free_at(web, hueing, place, hues), sorted(set(range(hues)) - there))

    def test_refusals(self):
        for place in (-1, 4, 10 ** 30):
            self.refused(NoPlace, hues_at, PATH, [0, 1, 0], place)
            self.refused(NoPlace, free_at, PATH, [0, 1, 0], place, 3)
        self.refused(NoPlace, hues_at, NOTHING, [], 0)
        self.refused(NoPlace, free_at, NOTHING, [], 0, 0)


class ClassesAndSimplest(Asking):

    def test_classes(self):
        self.assertEqual(self.ask(classes, [0, 2, None, 0, 1], 4), [[0, 3], [4], [1], []])
        self.assertEqual(self.ask(classes, [0, 2, None, 0, 1], 2), [[0, 3], [4]])
        self.assertEqual(self.ask(classes, [0, 2, None, 0, 1], 0), [])
        self.assertEqual(self.ask(classes, [], 3), [[], [], []])
        self.assertEqual(self.ask(classes, [], 0), [])
        self.assertEqual(self.ask(classes, [None, None], 1), [[]])

    def test_simplest(self):
        self.assertEqual(self.ask(simplest, [5, 2, None, 5, 0, 2]), [0, 1, None, 0, 2, 1])
        self.assertEqual(self.ask(simplest, [1, 0]), [0, 1])
        self.assertEqual(self.ask(simplest, [None, 199, None]), [None, 0, None])
        self.assertEqual(self.ask(simplest, [0, 1, 2]), [0, 1, 2])
        self.assertEqual(self.ask(simplest, []), [])
        self.assertEqual(self.ask(simplest, [None]), [None])

    def test_simplest_keeps_what_differs(self):
        for row in itertools.product((None, 0, 1, 3), repeat=4):
            named = simplest(list(row))
            for one, other in itertools.combinations(range(4), 2):
                self.assertEqual(row[one] == row[other], named[one] == named[other])
            self.assertEqual([hue is None for hue in row], [hue is None for hue in named])
            firsts = [hue for at, hue in enumerate(named) if hue is not None and hue not in named[:at]]
            self.assertEqual(firsts, list(range(len(firsts))))

    def test_one_tie(self):
        self.assertEqual(self.ask(simplest, [7]), [0])
        self.assertEqual(self.ask(hues_at, ONE_TIE, [7], 1), [7])
        self.assertEqual(self.ask(hues_at, TRIANGLE, [2, 1, 0], 1), [1, 2])


if __name__ == "__main__":
    unittest.main()
