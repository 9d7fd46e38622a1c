"""[14]: the fewest hues."""

import itertools
import unittest

from huedties.fewcheck import shows_fewest
from huedties.fewest import fewest

from samples import (ALIKE, APART, FIVE, LONE, MINGLED, NAMED, NOTHING, ONE_TIE, PATH, PETERSEN, SIDED, SQUARE, STAR,
                     TRIANGLE, TWO_ALIKE, Asking, chance_web, complete, few_hues, is_fewest, is_tree, small_webs,
                     thick_ring, whole_hueings)

# Petersen's web without one place takes four hues, too, though no place and no set of places shows it.
NINE = (9, tuple([tie for tie in PETERSEN[1] if 9 not in tie]))


class Fewest(Asking):

    def check(self, web):
        answer = self.ask(fewest, web)
        self.assertIs(type(answer), tuple)
        self.assertIs(type(answer[1]), list)
        self.assertTrue(is_fewest(web, answer), (web, answer))
        self.assertTrue(self.truth(shows_fewest, web, answer))
        return answer

    def test_known_numbers(self):
        for web, number in [(ONE_TIE, 1), (PATH, 2), (STAR, 4), (TRIANGLE, 3), (SQUARE, 2), (FIVE, 3), (ALIKE, 3),
                            (TWO_ALIKE, 3), (MINGLED, 3), (PETERSEN, 4), (NINE, 4), (complete(4), 3), (complete(5), 5),
                            (complete(6), 5), (thick_ring(3, 2), 6), (thick_ring(3, 3), 9), (thick_ring(3, 5), 15),
                            (thick_ring(5, 2), 5), (thick_ring(5, 3), 8), (thick_ring(7, 2), 5), (thick_ring(4, 4), 8),
                            ((2, ((0, 1),) * 16), 16), (thick_ring(12, 1), 2), (thick_ring(11, 1), 3)]:
            self.assertEqual(self.check(web)[0], number, web)

    def test_no_ties(self):
        for web in (NOTHING, LONE, APART, (30, ())):
            self.assertEqual(self.ask(fewest, web), (0, [], None))
            self.assertTrue(shows_fewest(web, (0, [], None)))

    def test_a_tree_where_no_place_and_no_set_shows_it(self):
        for web in (PETERSEN, NINE, (12, PETERSEN[1] + ((10, 11),)), (30, PETERSEN[1])):
            number, hueing, paper = self.check(web)
            self.assertEqual((number, paper[0]), (4, "tree"))
            self.assertTrue(is_tree(web, few_hues(web, 3), paper[1]))

    def test_papers_are_small_where_they_can_be(self):
        # A tree would do, too, but a place or a set is shorter.
        for web in (ONE_TIE, PATH, STAR, ALIKE, SQUARE, complete(4), thick_ring(4, 4)):
            self.assertEqual(self.ask(fewest, web)[2][0], "place")
        for web in (TRIANGLE, FIVE, complete(5), thick_ring(3, 5), thick_ring(5, 3), thick_ring(7, 2),
                    (12, ((0, 1), (1, 2)) + tuple([(a + 4, b + 4) for a, b in FIVE[1]]))):
            self.assertEqual(self.ask(fewest, web)[2][0], "set")

    def test_several_parts(self):
        # A part that takes more hues than the greatest count of the other, behind it and ahead of it.
        apart = (9, ((0, 1), (1, 2), (2, 3), (0, 3), (4, 5), (5, 6), (6, 7), (7, 8), (4, 8)))
        self.assertEqual(self.check(apart)[0], 3)
        self.assertEqual(self.check((12, tuple([(8 - b, 8 - a) for a, b in apart[1]])))[0], 3)
        star = (12, STAR[1] + tuple([(a + 6, b + 6) for a, b in FIVE[1]]))
        self.assertEqual(self.check(star)[0], 4)

    def test_small_webs(self):
        for web in itertools.chain(small_webs(4, 3), small_webs(3, 4)):
            answer = fewest(web)
            self.assertTrue(is_fewest(web, answer), (web, answer))
            self.assertTrue(shows_fewest(web, answer))
            least = [hues for hues in range(5) if any(True for row in whole_hueings(web, hues))]
            self.assertEqual(answer[0], least[0])

    def test_webs_at_the_bounds(self):
        for seed in range(60):
            self.check(chance_web(seed, 12, 16))
            self.check(chance_web(seed, 5 + seed % 8, 16))
            self.check(chance_web(seed, 5 + seed % 8, 16, 7))
        # Places without ties aren't counted.
        self.check((30, tuple([(a * 2, b * 2) for a, b in chance_web(7, 12, 16)[1]])))

    def test_webs_of_three_ties_at_each_place(self):
        # Rings with ties across, thinned by one: many of them are near to taking one hue more.
        for many in (6, 8, 10):
            ring = thick_ring(many, 1)[1]
            for jump in range(2, many // 2 + 1):
                across = tuple([(k, k + jump) for k in range(many - jump) if k % (2 * jump) < jump])
                self.check((many, (ring + across)[:16]))
                for gone in range(len(ring)):
                    self.check((many, (ring[:gone] + ring[gone + 1:] + across)[:16]))

    def test_other_webs(self):
        for web in NAMED + SIDED:
            if len(web[1]) <= 16 and len({place for tie in web[1] for place in tie}) <= 12:
                self.check(web)


if __name__ == "__main__":
    unittest.main()
