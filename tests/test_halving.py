"""[11]: halves."""

import itertools
import unittest

from huedties.halving import halves

from samples import APART, LONE, NOTHING, SIDED, UNSIDED, Asking, full_sides, sided_web, small_sided_webs, thick_ring


class Halves(Asking):

    def check(self, web):
        answer = self.ask(halves, web)
        self.assertIs(type(answer), tuple)
        one, other = answer
        self.assertIs(type(one), list)
        self.assertIs(type(other), list)
        self.assertEqual(one, sorted(one))
        self.assertEqual(other, sorted(other))
        self.assertEqual(sorted(one + other), list(range(len(web[1]))))
        for place in range(web[0]):
            here = sum(place in web[1][tie] for tie in one)
            there = sum(place in web[1][tie] for tie in other)
            self.assertLessEqual(abs(here - there), 1, (web, place))

    def test_webs(self):
        for web in SIDED:
            self.check(web)

    def test_no_ties(self):
        for web in (NOTHING, LONE, APART):
            self.assertEqual(self.ask(halves, web), ([], []))

    def test_rings_and_thick_ties(self):
        for many in range(2, 30, 2):
            self.check(thick_ring(many, 1))
            self.check(thick_ring(many, 3))
        for count in range(91):
            self.check((2, ((0, 1),) * count))
        for one, other in itertools.product(range(1, 8), repeat=2):
            self.check(full_sides(one, other))

    def test_webs_by_chance(self):
        for seed in range(100, 160):
            self.check(sided_web(seed, 1 + seed % 9, 1 + seed % 11, seed % 91))

    def test_small_webs(self):
        for web in small_sided_webs(4, 4):
            one, other = halves(web)
            self.assertEqual(sorted(one + other), list(range(len(web[1]))))
            for place in range(web[0]):
                more = [1 if tie in one else -1 for tie, ends in enumerate(web[1]) if place in ends]
                self.assertLessEqual(abs(sum(more)), 1)

    def test_refusals(self):
        for web in UNSIDED:
            self.unsided(halves, web)
        # Its ties could be halved evenly, but it isn't of two sides.
        self.unsided(halves, (4, ((0, 1), (0, 2), (1, 2), (2, 3))))
        self.unsided(halves, thick_ring(3, 2))


if __name__ == "__main__":
    unittest.main()
