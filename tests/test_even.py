"""[17]: hues used evenly."""

import unittest

from huedties.errors import TooFew
from huedties.even import evened, sizes, spread
from huedties.story import played

from samples import (ALIKE, APART, FIVE, LONE, NAMED, NOTHING, ONE_TIE, PATH, PETERSEN, SQUARE, STAR, Asking,
                     chance_web, complete, enough, greater_webs, hueing_of, is_good, small_webs, thick_ring,
                     whole_hueings)

APART_TIES = (12, ((0, 1), (2, 3), (4, 5), (6, 7), (8, 9), (10, 11)))


def counts_of(hueing, hues):
    return [hueing.count(hue) for hue in range(hues)]


def is_even(hueing, hues):
    counts = counts_of(hueing, hues)
    return not counts or max(counts) - min(counts) <= 1


class Sizes(Asking):

    def test_sizes(self):
        self.assertEqual(self.ask(sizes, [0, 2, 0, 1, 0], 4), [3, 1, 1, 0])
        self.assertEqual(self.ask(sizes, [0], 1), [1])
        self.assertEqual(self.ask(sizes, [], 3), [0, 0, 0])
        self.assertEqual(self.ask(sizes, [], 0), [])


class Evened(Asking):

    def check(self, web, hueing, hues):
        told, steps = self.ask(evened, web, hueing, hues)
        self.assertEqual(self.play(web, hueing, steps, hues, ("row",)), told)
        self.assertTrue(is_good(web, told))
        self.assertTrue(is_even(told, hues), (web, hueing, told))
        self.assertEqual(sum(counts_of(told, hues)), len(web[1]))
        if is_even(hueing, hues):
            self.assertEqual((told, steps), (hueing, []))
        else:
            self.assertEqual(played(web, hueing, steps)[-1], told)

    def test_ties_apart(self):
        for hues in (1, 2, 3, 4, 5, 6, 7, 10):
            self.check(APART_TIES, [0] * 6, hues)
            self.check(APART_TIES, [hues - 1] * 6, hues)

    def test_even_already(self):
        self.check(SQUARE, [0, 1, 0, 1], 2)
        self.check(STAR, [3, 1, 0, 2], 4)
        self.check(STAR, [3, 1, 0, 2], 9)
        self.check(PATH, [0, 1, 0], 2)
        self.check(ONE_TIE, [0], 1)
        self.check(ALIKE, [0, 2, 4], 5)

    def test_without_ties(self):
        for web in (NOTHING, LONE, APART):
            self.check(web, [], 0)
            self.check(web, [], 1)
            self.check(web, [], 7)

    def test_ordinary(self):
        self.check((5, ((0, 1), (1, 2), (2, 3), (3, 4), (0, 4))), [0, 1, 0, 1, 2], 5)
        self.check((8, ((0, 1), (1, 2), (2, 3), (4, 5), (6, 7))), [0, 1, 0, 0, 0], 2)
        # Rows with as many of both, and one with fewer, are to be passed by.
        self.check((13, ((0, 1), (1, 2), (3, 4), (4, 5), (5, 6), (7, 8), (9, 10), (11, 12))),
                   [0, 1, 1, 0, 1, 0, 0, 0], 2)
        self.check((9, ((0, 1), (1, 2), (0, 2), (3, 4), (5, 6), (7, 8))), [0, 1, 2, 0, 0, 0], 3)
        self.check((9, ((0, 1), (0, 1), (3, 4), (5, 6), (7, 8))), [0, 1, 0, 0, 0], 2)

    def test_each_hueing_of_small_webs(self):
        for web in list(small_webs(4, 3)) + [FIVE, PATH]:
            for hueing in whole_hueings(web, 3):
                told, steps = evened(web, hueing, 3)
                self.assertTrue(is_even(told, 3))
                self.assertEqual(self.play(web, hueing, steps, 3, ("row",)), told)
                self.assertEqual(steps == [], is_even(hueing, 3))

    def test_greater_webs(self):
        for seed, web in enumerate(list(greater_webs()) + NAMED):
            for extra in (0, 1, 3):
                hueing = hueing_of(web, seed, extra=extra)
                hues = max(hueing, default=0) + 1
                self.check(web, hueing, hues)
                self.check(web, hueing, hues + 2)

    def test_many_hues(self):
        self.check(chance_web(8, 30, 90), hueing_of(chance_web(8, 30, 90), 1, extra=0), 200)
        self.check(APART_TIES, [0] * 6, 200)


class Spread(Asking):

    def check(self, web, hues):
        hueing = self.ask(spread, web, hues)
        self.assertTrue(is_good(web, hueing))
        self.assertTrue(all(hue is not None and hue < hues for hue in hueing))
        self.assertTrue(is_even(hueing, hues))

    def test_webs(self):
        for web in NAMED + list(greater_webs()) + [complete(9), thick_ring(3, 10), APART_TIES]:
            self.check(web, enough(web))
            self.check(web, enough(web) + 1)
            self.check(web, enough(web) + 7)
        self.check(PETERSEN, 200)

    def test_no_ties(self):
        for web in (NOTHING, LONE, APART):
            self.assertEqual(self.ask(spread, web, 0), [])
            self.assertEqual(self.ask(spread, web, 3), [])

    def test_refusals(self):
        for web in (ONE_TIE, PATH, STAR, ALIKE, PETERSEN, thick_ring(3, 3)):
            self.refused(TooFew, spread, web, enough(web) - 1)
            self.refused(TooFew, spread, web, 0)


if __name__ == "__main__":
    unittest.main()
