"""[10]: pairings."""

import itertools
import unittest

from huedties.pairings import full_pairing, pairing, shows_pairing

from samples import (ALIKE, APART, FIVE, LONE, NAMED, NOTHING, ODD_THINGS, ONE_TIE, PATH, PETERSEN, SIDED, SQUARE, STAR,
                     TRIANGLE, UNSIDED, Asking, complete, full_sides, greater_webs, meet, small_sided_webs,
                     small_webs, thick_ring, variants)


def rises(row):
    return all(one < other for one, other in zip(row, row[1:]))


def is_apart(web, ties):
    return not any(meet(web, one, other) for one, other in itertools.combinations(ties, 2))


def shown_by_words(web, thing):
    """Whether this is a pairing with its cover, by the words of the document."""
    if type(thing) is not tuple or len(thing) != 2 or any(type(row) not in (list, tuple) for row in thing):
        return False
    ties, cover = thing
    if any(type(item) is not int for row in thing for item in row) or not rises(ties) or not rises(cover):
        return False
    if any(tie not in range(len(web[1])) for tie in ties) or any(place not in range(web[0]) for place in cover):
        return False
    return len(ties) == len(cover) and is_apart(web, ties) and all(set(tie) & set(cover) for tie in web[1])


def greatest(web):
    """How many ties the greatest pairing has, out of all sets of ties."""
    rows = [row for size in range(len(web[1]) + 1) for row in itertools.combinations(range(len(web[1])), size)]
    return max(len(row) for row in rows if is_apart(web, row))


class Pairing(Asking):

    def test_known_ones(self):
        self.assertEqual(self.ask(pairing, NOTHING), ([], []))
        self.assertEqual(self.ask(pairing, LONE), ([], []))
        self.assertEqual(self.ask(pairing, APART), ([], []))
        self.assertEqual(self.ask(pairing, STAR)[1], [0])
        self.assertEqual(len(self.ask(pairing, ONE_TIE)[0]), 1)
        self.assertEqual(self.ask(pairing, PATH)[0], [0, 2])
        self.assertEqual(len(self.ask(pairing, ALIKE)[0]), 1)
        self.assertEqual(len(self.ask(pairing, full_sides(4, 7))[0]), 4)
        self.assertEqual(len(self.ask(pairing, thick_ring(30, 3))[0]), 15)

    def test_webs(self):
        for web in SIDED:
            answer = self.ask(pairing, web)
            self.assertTrue(shown_by_words(web, answer), (web, answer))
            self.assertIs(type(answer[0]), list)
            self.assertIs(type(answer[1]), list)
            self.assertTrue(self.truth(shows_pairing, web, answer))

    def test_ways_of_any_length(self):
        # The ties in an order in which ties that are taken first must be given up again.
        for many in range(2, 31):
            for turn in (1, 2, 3, 5):
                ties = [(k, k + 1) for k in range(many - 1)]
                order = sorted(range(many - 1), key=lambda k: ((k * turn) % 7, -k))
                web = (many, tuple(ties[k] for k in order))
                answer = pairing(web)
                self.assertEqual(len(answer[0]), many // 2)
                self.assertTrue(shown_by_words(web, answer))

    def test_small_webs(self):
        for web in itertools.chain(small_sided_webs(4, 3), small_sided_webs(3, 4)):
            answer = pairing(web)
            self.assertTrue(shown_by_words(web, answer), (web, answer))
            self.assertEqual(len(answer[0]), greatest(web))

    def test_refusals(self):
        for web in UNSIDED:
            self.unsided(pairing, web)


class ShowsPairing(Asking):

    def check(self, web, thing):
        expected = shown_by_words(web, thing)
        self.assertIs(self.truth(shows_pairing, web, thing), expected, (web, thing))
        return expected

    def test_right_ones(self):
        self.assertTrue(self.check(PATH, ([0, 2], [1, 2])))
        self.assertTrue(self.check(PATH, ((0, 2), (1, 2))))
        self.assertTrue(self.check(PATH, ([0, 2], (1, 2))))
        self.assertTrue(self.check(PATH, ([0, 2], [1, 3])))
        self.assertTrue(self.check(NOTHING, ([], [])))
        self.assertTrue(self.check(APART, ([], ())))
        self.assertTrue(self.check(STAR, ([3], [0])))
        self.assertTrue(self.check(ALIKE, ([1], [1])))

    def test_wrong_ones(self):
        for thing in [([0, 2], [0, 3]), ([0, 1], [1, 2]), ([2, 0], [1, 2]), ([0, 2], [2, 1]), ([0, 2], [1]),
                      ([0], [1]), ([0], [1, 2]), ([0, 2], [1, 2, 3]), ([0, 0], [1, 2]), ([0, 2], [1, 1]), ([], []),
                      [[0, 2], [1, 2]], ([0, 2], [1, 2], []), ([0, 2],), ([0, 3], [1, 2]), ([-1, 0], [1, 2]),
                      ([0, 2], [-2, 1]), ([0, 2], [1, 4]), ([0, 2], [1, 10 ** 40]), ([False, 2], [1, 2]),
                      ([0, 2], [True, 2]), ([0, None], [1, 2]), ("02", [1, 2]), ([0, 2], "12"), ([0, "2"], [1, 2]),
                      ([[0], [2]], [1, 2]), (None, [1, 2]), ([0, 2], None), None, 0, True]:
            self.assertFalse(self.check(PATH, thing), thing)

    def test_webs_without_two_sides(self):
        # Some such webs have a pairing with a cover of as many places, others haven't.
        tailed = (4, ((0, 1), (1, 2), (0, 2), (2, 3)))
        self.assertTrue(self.check(tailed, ([0, 3], [0, 2])))
        self.assertTrue(self.check(tailed, ([0, 3], [1, 2])))
        self.assertFalse(self.check(tailed, ([0, 3], [0, 1])))
        for web in (TRIANGLE, FIVE, complete(4), thick_ring(3, 2)):
            for size in range(4):
                for ties in itertools.combinations(range(len(web[1])), size):
                    for cover in itertools.combinations(range(web[0]), size):
                        self.assertFalse(self.check(web, (list(ties), list(cover))))

    def test_each_pair_of_small_webs(self):
        found = 0
        for web in list(small_webs(3, 2)) + [PATH, SQUARE, TRIANGLE, (4, TRIANGLE[1] + ((2, 3),))]:
            rows = [row for size in range(3) for row in itertools.product(range(-1, web[0] + 1), repeat=size)]
            for ties in rows:
                for cover in rows:
                    found += shown_by_words(web, (ties, cover))
                    self.assertIs(shows_pairing(web, (list(ties), cover)), shown_by_words(web, (list(ties), cover)))
        self.assertGreater(found, 40)

    def test_one_thing_otherwise(self):
        for web in (ONE_TIE, PATH, STAR, SQUARE, ALIKE, APART, full_sides(3, 3)):
            for thing in variants(pairing(web)):
                self.check(web, thing)

    def test_odd_things(self):
        for web in NAMED + list(greater_webs()):
            for thing in ODD_THINGS:
                self.check(web, thing)


class FullPairing(Asking):

    def check(self, web):
        ties = self.ask(full_pairing, web)
        self.assertIs(type(ties), list)
        self.assertTrue(rises(ties) and is_apart(web, ties), (web, ties))
        self.assertTrue(all(tie in range(len(web[1])) for tie in ties))
        counts = [sum(place in tie for tie in web[1]) for place in range(web[0])]
        paired = [place for tie in ties for place in web[1][tie]]
        if web[1]:
            self.assertEqual([k for k in range(web[0]) if counts[k] == max(counts) and k not in paired], [], web)
        else:
            self.assertEqual(ties, [])

    def test_webs(self):
        for web in SIDED:
            self.check(web)

    def test_places_that_give_theirs_up(self):
        # Where 0 and 1 take 3 and 4, which don't need a tie, 2 goes without.
        self.check((5, ((0, 3), (1, 4), (0, 2), (1, 2))))
        for names in itertools.permutations(range(5)):
            ties = [tuple(sorted(pair)) for pair in zip(names, names[1:])]
            self.check((5, tuple(ties)))
            self.check((5, tuple(ties[:1] + ties[:0:-1])))
        for many in range(3, 31):
            ties = [(k, k + 1) for k in range(many - 1)]
            for extra in range(many - 1):
                self.check((many, tuple(ties + [ties[extra]])))
                self.check((many, tuple([ties[extra]] + ties[::-1])))

    def test_small_webs(self):
        for web in small_sided_webs(4, 3):
            self.check(web)

    def test_refusals(self):
        for web in UNSIDED + [PETERSEN]:
            self.unsided(full_pairing, web)


if __name__ == "__main__":
    unittest.main()
