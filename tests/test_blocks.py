"""[21]: cuts and blocks."""

import itertools
import unittest

from huedties.blocks import blocks, cuts

from samples import (ALIKE, APART, FIVE, LONE, MINGLED, NAMED, NOTHING, ONE_TIE, PATH, PETERSEN, SIDED, STAR, TRIANGLE,
                     TWO_ALIKE, UNSIDED, Asking, blocks_of, chance_web, complete, cuts_of, greater_webs, joined_webs,
                     reached, small_webs, thick_ring)


def rings_of(web, start, way=(), seen=()):
    """All rings through a place, as tuples of ties, on which no place comes twice."""
    place = seen[-1] if seen else start
    for tie, ends in enumerate(web[1]):
        if place in ends and tie not in way:
            far = sum(ends) - place
            if far == start and way:
                yield way + (tie,)
            elif far != start and far not in seen:
                yield from rings_of(web, start, way + (tie,), seen + (far,))


class Blocks(Asking):

    def look(self, web, rows, places):
        """Looks at blocks and cuts by what [21] says of them."""
        self.assertIs(type(rows), list)
        self.assertTrue(all(type(row) is list and row for row in rows))
        self.assertEqual(sorted([tie for row in rows for tie in row]), list(range(len(web[1]))))
        self.assertTrue(all(row == sorted(row) for row in rows))
        self.assertEqual(rows, sorted(rows))
        spots = [{place for tie in row for place in web[1][tie]} for row in rows]
        for one, other in itertools.combinations(spots, 2):
            self.assertLessEqual(len(one & other), 1)
            self.assertLessEqual(one & other, set(places))
        shared = [place for place in range(web[0]) if len([spot for spot in spots if place in spot]) > 1]
        self.assertEqual(places, shared)
        for row, spot in zip(rows, spots):
            inner = (web[0], tuple([web[1][tie] for tie in row]))
            for gone in spot:
                rest = sorted(spot - {gone})
                self.assertEqual(reached(inner, rest[0], gone), set(rest), "a block hangs together without any place")

    def check(self, web):
        rows = self.ask(blocks, web)
        places = self.ask(cuts, web)
        self.look(web, rows, places)
        self.assertEqual(rows, blocks_of(web))
        self.assertEqual(places, cuts_of(web))
        return (rows, places)

    def test_known(self):
        for web, rows, places in [
                (NOTHING, [], []), (LONE, [], []), (APART, [], []), (ONE_TIE, [[0]], []), (PATH, [[0], [1], [2]], [1, 2]),
                (STAR, [[0], [1], [2], [3]], [0]), (TRIANGLE, [[0, 1, 2]], []), (FIVE, [[0, 1, 2, 3, 4]], []),
                (ALIKE, [[0, 1, 2]], []), (TWO_ALIKE, [[0, 2], [1]], [1]), (PETERSEN, [list(range(15))], []),
                (MINGLED, [[0, 2, 4], [1, 3, 5], [6]], [4]), ((30, ((4, 29),)), [[0]], []),
                ((5, ((0, 1), (1, 2), (0, 2), (2, 3), (3, 4), (2, 4))), [[0, 1, 2], [3, 4, 5]], [2]),
                # Mingled numbers, and a ring that is joined at two places.
                ((7, ((5, 6), (0, 1), (1, 5), (2, 3), (1, 2), (0, 2))), [[0], [1, 4, 5], [2], [3]], [1, 2, 5])]:
            self.assertEqual(self.check(web), (rows, places), web)

    def test_rows_of_ties_and_stars(self):
        row = (30, tuple([(k, k + 1) for k in range(29)]))
        self.assertEqual(self.check(row), ([[tie] for tie in range(29)], list(range(1, 29))))
        star = (30, tuple([(k, 29) for k in range(29)] * 3))
        self.assertEqual(self.check(star), ([[tie, tie + 29, tie + 58] for tie in range(29)], [29]))

    def test_joined_webs(self):
        for web in joined_webs():
            self.check(web)

    def test_other_webs(self):
        for web in NAMED + [complete(8), thick_ring(30, 3), chance_web(3, 30, 90), chance_web(4, 30, 40)]:
            self.check(web)
        for web in SIDED + UNSIDED + list(greater_webs()):
            self.look(web, blocks(web), cuts(web))

    def test_rings_of_small_webs(self):
        for web in itertools.chain(small_webs(4, 3), small_webs(3, 4), [complete(4), TWO_ALIKE, MINGLED, PETERSEN]):
            rows = blocks(web)
            self.look(web, rows, cuts(web))
            self.assertEqual(cuts(web), cuts_of(web))
            if web[0] > 4:
                continue
            rings = {ring for place in range(web[0]) for ring in rings_of(web, place)}
            for one, other in itertools.combinations(range(len(web[1])), 2):
                on_one = any(one in ring and other in ring for ring in rings)
                self.assertEqual(on_one, any(one in row and other in row for row in rows), (web, one, other))


if __name__ == "__main__":
    unittest.main()
