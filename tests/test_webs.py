"""[3]: webs."""

import itertools
import unittest

from huedties.errors import NoPlace, NoTie
from huedties.webs import count_at, far_end, is_web, most_at, only, parts, thickest, ties_at, within

from samples import (ALIKE, APART, LONE, MINGLED, NAMED, NOTHING, ODD_THINGS, ONE_TIE, PATH, PETERSEN, SQUARE, STAR,
                     TRIANGLE, TWO_ALIKE, Asking, complete, greater_webs, small_webs, thick_ring)

WRONG_NUMBERS = (-1, -2, 30, 10 ** 30)


class IsWeb(Asking):

    def test_webs(self):
        for web in NAMED + list(small_webs()) + list(greater_webs()):
            self.assertTrue(self.truth(is_web, web), web)

    def test_numbers_of_any_size(self):
        great = 10 ** 60
        self.assertTrue(self.truth(is_web, (great, ())))
        self.assertTrue(self.truth(is_web, (great, ((0, great - 1), (great - 2, great - 1)))))
        self.assertFalse(self.truth(is_web, (great, ((0, great),))))

    def test_many(self):
        for many in (-1, True, False, None, "2", (2,), [2], -10 ** 30):
            self.assertFalse(self.truth(is_web, (many, ())), many)
        for many in (True, None, "2"):
            self.assertFalse(self.truth(is_web, (many, ((0, 1),))), many)

    def test_ties(self):
        for ties in (None, 0, "", [], [(0, 1)], ([0, 1],), ((0, 1), [0, 1]), True):
            self.assertFalse(self.truth(is_web, (3, ties)), ties)
        for tie in ((1, 0), (1, 1), (0, 3), (-1, 1), (0,), (), (0, 1, 2), None, 0, "01", (False, 1), (0, True),
                    (None, 1), (0, None), ("0", 1), (0, "1"), ((0,), 1), (0, [1])):
            self.assertFalse(self.truth(is_web, (3, (tie,))), tie)
            self.assertFalse(self.truth(is_web, (3, ((0, 1), tie))), tie)
            self.assertFalse(self.truth(is_web, (3, (tie, (0, 1)))), tie)

    def test_form(self):
        for thing in ((), (0,), (0, (), ()), [0, ()], (2, ((0, 1),), None), ((), 0)):
            self.assertFalse(self.truth(is_web, thing), thing)

    def test_odd_things(self):
        right = [(0, ()), (2, ((0, 1),))]
        for thing in ODD_THINGS:
            expected = any(repr(thing) == repr(web) for web in right)
            self.assertIs(self.truth(is_web, thing), expected, thing)


class AtPlaces(Asking):

    def test_ties_at(self):
        self.assertEqual(self.ask(ties_at, PATH, 1), [0, 1])
        self.assertEqual(self.ask(ties_at, STAR, 0), [0, 1, 2, 3])
        self.assertEqual(self.ask(ties_at, STAR, 4), [3])
        self.assertEqual(self.ask(ties_at, ALIKE, 1), [0, 1, 2])
        self.assertEqual(self.ask(ties_at, MINGLED, 6), [])
        self.assertEqual(self.ask(ties_at, LONE, 0), [])

    def test_every_place(self):
        for web in NAMED + list(small_webs()) + list(greater_webs()):
            counts = []
            for place in range(web[0]):
                at = [k for k in range(len(web[1])) if web[1][k][0] == place or web[1][k][1] == place]
                self.assertEqual(ties_at(web, place), at)
                self.assertEqual(count_at(web, place), len(at))
                counts.append(len(at))
            self.assertEqual(most_at(web), max(counts) if counts else 0)

    def test_counts(self):
        self.assertEqual(self.ask(count_at, STAR, 0), 4)
        self.assertEqual(self.ask(count_at, TWO_ALIKE, 1), 3)
        self.assertEqual(self.ask(count_at, APART, 3), 0)
        self.assertEqual(self.ask(most_at, NOTHING), 0)
        self.assertEqual(self.ask(most_at, APART), 0)
        self.assertEqual(self.ask(most_at, STAR), 4)
        self.assertEqual(self.ask(most_at, thick_ring(3, 3)), 6)

    def test_refusals(self):
        for web in (NOTHING, LONE, PATH, ALIKE):
            for place in WRONG_NUMBERS + (web[0],):
                self.refused(NoPlace, ties_at, web, place)
                self.refused(NoPlace, count_at, web, place)

    def test_thickest(self):
        self.assertEqual(self.ask(thickest, NOTHING), 0)
        self.assertEqual(self.ask(thickest, APART), 0)
        self.assertEqual(self.ask(thickest, SQUARE), 1)
        self.assertEqual(self.ask(thickest, TWO_ALIKE), 2)
        self.assertEqual(self.ask(thickest, ALIKE), 3)
        self.assertEqual(self.ask(thickest, thick_ring(5, 2)), 2)
        for web in list(small_webs()) + list(greater_webs()):
            self.assertEqual(thickest(web), max([web[1].count(tie) for tie in web[1]], default=0))


class FarEnd(Asking):

    def test_both_ends(self):
        for web in NAMED:
            for tie, (one, other) in enumerate(web[1]):
                self.assertEqual(self.ask(far_end, web, tie, one), other)
                self.assertEqual(self.ask(far_end, web, tie, other), one)

    def test_refusals(self):
        for tie in WRONG_NUMBERS + (3,):
            self.refused(NoTie, far_end, PATH, tie, 0)
            self.refused(NoTie, far_end, PATH, tie, -1)
        for place in WRONG_NUMBERS + (2, 3, 4):
            self.refused(NoPlace, far_end, PATH, 0, place)
        self.refused(NoTie, far_end, NOTHING, 0, 0)


def leads_out(web, places):
    return any((one in places) != (other in places) for one, other in web[1])


class Parts(Asking):

    def test_ordinary(self):
        self.assertEqual(self.ask(parts, NOTHING), [])
        self.assertEqual(self.ask(parts, APART), [[0], [1], [2], [3]])
        self.assertEqual(self.ask(parts, MINGLED), [[0, 2, 3, 4], [1, 5, 7], [6]])
        self.assertEqual(self.ask(parts, PETERSEN), [list(range(10))])
        self.assertEqual(self.ask(parts, (6, ((2, 5), (3, 4), (0, 5), (3, 4)))), [[0, 2, 5], [1], [3, 4]])

    def test_small_webs(self):
        for web in small_webs(5, 2):
            told = parts(web)
            self.assertEqual(sorted(sum(told, [])), list(range(web[0])))
            self.assertEqual(told, sorted(told))
            for part in told:
                self.assertEqual(part, sorted(part))
                self.assertFalse(leads_out(web, part))
                for count in range(1, len(part)):
                    for less in itertools.combinations(part, count):
                        self.assertTrue(leads_out(web, less))

    def test_greater_webs(self):
        for web in greater_webs():
            for part in parts(web):
                reached = {part[0]}
                for turn in part:
                    reached |= {place for tie in web[1] if reached & set(tie) for place in tie}
                self.assertEqual(sorted(reached), part)


class OnlyAndWithin(Asking):

    def test_only(self):
        self.assertEqual(self.ask(only, PATH, [2, 0]), (4, ((2, 3), (0, 1))))
        self.assertEqual(self.ask(only, PATH, []), (4, ()))
        self.assertEqual(self.ask(only, ALIKE, [1, 2]), (2, ((0, 1), (0, 1))))
        self.assertEqual(self.ask(only, NOTHING, []), NOTHING)
        self.assertEqual(self.ask(only, MINGLED, list(range(7))), MINGLED)
        self.assertTrue(is_web(only(MINGLED, [6, 1])))

    def test_only_refuses(self):
        for tie in WRONG_NUMBERS + (3,):
            self.refused(NoTie, only, PATH, [tie])
            self.refused(NoTie, only, PATH, [0, 1, tie])
        self.refused(NoTie, only, NOTHING, [0])

    def test_within(self):
        self.assertEqual(self.ask(within, PATH, [1, 2, 3]), [1, 2])
        self.assertEqual(self.ask(within, PATH, [3, 0, 2]), [2])
        self.assertEqual(self.ask(within, PATH, [0, 2]), [])
        self.assertEqual(self.ask(within, PATH, []), [])
        self.assertEqual(self.ask(within, ALIKE, [1, 0]), [0, 1, 2])
        self.assertEqual(self.ask(within, ONE_TIE, [1]), [])
        self.assertEqual(self.ask(within, NOTHING, []), [])
        self.assertEqual(self.ask(within, complete(4), [0, 1, 3]), [0, 2, 4])
        self.assertEqual(self.ask(within, TRIANGLE, [2, 1, 0]), [0, 1, 2])


if __name__ == "__main__":
    unittest.main()
