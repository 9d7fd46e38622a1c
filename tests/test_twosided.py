"""[12]: hues for webs of two sides, by rows, by pairings and by halves."""

import itertools
import unittest

from huedties.story import played
from huedties.twosided import by_halves, by_pairings, by_rows

from samples import (APART, LONE, NOTHING, SIDED, UNSIDED, Asking, is_good, meet, sided_web, small_sided_webs,
                     thick_ring)

MANY = SIDED + [sided_web(seed, 2 + seed % 6, 2 + seed % 7, 10 + seed % 30) for seed in range(200, 240)]


def most(web):
    ends = [place for tie in web[1] for place in tie]
    return max([ends.count(place) for place in ends], default=0)


class ByRows(Asking):

    def check(self, web, deed):
        hueing, steps = deed(web)
        self.assertTrue(is_good(web, hueing))
        self.assertTrue(all(hue in range(most(web)) for hue in hueing))
        # Each step is played by the words of the document, of hues below the greatest count.
        self.assertEqual(self.play(web, [None] * len(web[1]), steps, most(web), ("row", "hue")), hueing)
        if steps:
            self.assertEqual(played(web, [None] * len(web[1]), steps)[-1], hueing)
        return [step[0] for step in steps]

    def test_webs(self):
        words = []
        for web in MANY:
            words += self.check(web, lambda asked: self.ask(by_rows, asked))
        self.assertGreater(words.count("row"), 15)

    def test_small_webs(self):
        for web in small_sided_webs(4, 4):
            self.check(web, by_rows)

    def test_no_ties(self):
        for web in (NOTHING, LONE, APART):
            self.assertEqual(self.ask(by_rows, web), ([], []))

    def test_refusals(self):
        for web in UNSIDED:
            self.unsided(by_rows, web)


class ByPairings(Asking):

    def check(self, web, told):
        self.assertIs(type(told), list)
        self.assertEqual(len(told), most(web))
        self.assertEqual(sorted(tie for row in told for tie in row), list(range(len(web[1]))))
        for row in told:
            self.assertIs(type(row), list)
            self.assertEqual(row, sorted(row))
            self.assertFalse(any(meet(web, one, other) for one, other in itertools.combinations(row, 2)))

    def test_webs(self):
        for web in MANY:
            self.check(web, self.ask(by_pairings, web))

    def test_small_webs(self):
        for web in small_sided_webs(4, 4):
            self.check(web, by_pairings(web))

    def test_no_ties(self):
        for web in (NOTHING, LONE, APART):
            self.assertEqual(self.ask(by_pairings, web), [])

    def test_refusals(self):
        for web in UNSIDED:
            self.unsided(by_pairings, web)


class ByHalves(Asking):

    def check(self, web, hueing):
        self.assertTrue(is_good(web, hueing))
        self.assertTrue(all(hue in range(most(web)) for hue in hueing), web)

    def test_webs(self):
        for web in MANY:
            self.check(web, self.ask(by_halves, web))

    def test_thick_webs(self):
        for count in range(1, 23):
            self.check(thick_ring(4, count), self.ask(by_halves, thick_ring(4, count)))

    def test_small_webs(self):
        for web in small_sided_webs(4, 4):
            self.check(web, by_halves(web))

    def test_no_ties(self):
        for web in (NOTHING, LONE, APART):
            self.assertEqual(self.ask(by_halves, web), [])

    def test_refusals(self):
        for web in UNSIDED:
            self.unsided(by_halves, web)


if __name__ == "__main__":
    unittest.main()
