"""[15]: hues out of lists, and with some ties hued ahead."""

import itertools
import random
import unittest

from huedties.listcheck import shows_filled, shows_lists
from huedties.lists import filled, from_lists

from samples import (ALIKE, APART, FIVE, LONE, MINGLED, NOTHING, ONE_TIE, PATH, PETERSEN, SQUARE, STAR, TRIANGLE, Asking,
                     chance_web, complete, has_hueing, is_out_of, lists_ahead, narrow_hueing, small_webs, some_hueings,
                     thick_ring)

ODD_PETERSEN = (12, PETERSEN[1] + ((10, 11),))


class Told(Asking):

    def right(self, web, lists, answer):
        """Looks at what is told of these lists, and tells its word."""
        self.assertIs(type(answer), tuple)
        self.assertTrue(is_out_of(web, lists, answer), (web, lists, answer))
        if answer[0] == "hueing":
            self.assertIs(type(answer[1]), list)
        self.assertEqual(answer[0] == "hueing", has_hueing(web, lists))
        return answer[0]


class FromLists(Told):

    def check(self, web, lists):
        answer = self.ask(from_lists, web, lists)
        self.assertTrue(self.truth(shows_lists, web, lists, answer))
        return self.right(web, lists, answer)

    def test_ordinary(self):
        self.assertEqual(self.check(PATH, [[0, 1], [0, 1], [0, 1]]), "hueing")
        self.assertEqual(self.check(PATH, [[5], [5, 9], [9, 199]]), "hueing")
        self.assertEqual(self.check(PATH, [[5], [5, 9], [9]]), "none")
        self.assertEqual(self.check(TRIANGLE, [[0, 1], [0, 1], [0, 1]]), "none")
        self.assertEqual(self.check(TRIANGLE, [[0, 1], [0, 1], [0, 2]]), "hueing")
        self.assertEqual(self.check(ALIKE, [[0, 1], [1, 2], [0, 2]]), "hueing")
        self.assertEqual(self.check(ALIKE, [[0, 1], [0, 1], [0, 1]]), "none")
        self.assertEqual(self.check(SQUARE, [[0, 1], [1, 2], [2, 3], [0, 3]]), "hueing")
        # Each place is of two ties, but these lists of two hues don't do.
        self.assertEqual(self.check(SQUARE, [[0, 1], [1], [0, 1], [1]]), "hueing")
        self.assertEqual(self.check(SQUARE, [[0, 1], [1], [1, 2], [0]]), "none")

    def test_no_ties(self):
        for web in (NOTHING, LONE, APART):
            self.assertEqual(self.ask(from_lists, web, []), ("hueing", []))

    def test_empty_lists_and_lists_of_one(self):
        self.assertEqual(self.ask(from_lists, ONE_TIE, [[]]), ("none", (0, ())))
        self.assertEqual(self.check(PATH, [[0, 1], [], [0, 1]]), "none")
        self.assertEqual(self.check(PATH, [[0], [1], [0]]), "hueing")
        self.assertEqual(self.check(PATH, [[0], [1], [1]]), "none")
        self.assertEqual(self.check(STAR, [[3], [2], [1], [0]]), "hueing")
        self.assertEqual(self.check(STAR, [[3], [2], [1], [3]]), "none")

    def test_several_parts(self):
        for lists in itertools.product([[0], [0, 1]], repeat=7):
            self.check(MINGLED, list(lists))

    def test_each_lists_of_small_webs(self):
        subsets = [list(row) for size in range(4) for row in itertools.combinations((0, 1, 2), size)]
        words = []
        for web in small_webs(3, 3):
            for lists in itertools.product(subsets, repeat=len(web[1])):
                answer = from_lists(web, list(lists))
                self.assertTrue(shows_lists(web, lists, answer))
                words.append(self.right(web, lists, answer))
        self.assertGreater(words.count("none"), 1000)
        self.assertGreater(words.count("hueing"), 1000)

    def test_webs_by_chance(self):
        words = []
        for seed in range(200):
            dice = random.Random(seed)
            web = chance_web(seed, dice.randrange(4, 9), dice.randrange(6, 12))
            pool = dice.choice((3, 4, 5))
            lists = [sorted(dice.sample(range(pool), dice.randrange(1, pool + 1))) for tie in web[1]]
            words.append(self.check(web, lists))
        self.assertGreater(words.count("none"), 40)
        self.assertGreater(words.count("hueing"), 40)

    def test_webs_at_the_bounds(self):
        words = []
        for seed in range(40):
            dice = random.Random(seed)
            web = chance_web(seed, 7 + seed % 6, 16)
            pool = dice.choice((4, 5, 6, 7))
            size = dice.choice((2, 3, 4, 5))
            lists = [sorted(dice.sample(range(pool), min(size, pool))) for tie in web[1]]
            answer = from_lists(web, lists)
            self.assertTrue(shows_lists(web, lists, answer))
            # A tree that is one shows that there is no hueing, so no search is needed.
            self.assertTrue(is_out_of(web, lists, answer))
            words.append(answer[0])
        self.assertGreater(words.count("none"), 5)
        self.assertGreater(words.count("hueing"), 5)

    def test_hard_ones(self):
        # Each hue may be had three times within seven places, so that five hues do for fifteen ties, not for sixteen.
        seven = (7, tuple(itertools.combinations(range(6), 2)) + ((0, 6),))
        for web, lists in [(seven, [list(range(5))] * 16), (ODD_PETERSEN, [[7, 8, 9]] * 16),
                           (ODD_PETERSEN, [[0, 1, 2, 3]] * 16), (STAR, [[0, 1, 2]] * 4),
                           ((2, ((0, 1),) * 11), [sorted({(k + j) % 10 for j in range(5)}) for k in range(11)])]:
            answer = from_lists(web, lists)
            self.assertTrue(shows_lists(web, lists, answer))
            self.assertTrue(is_out_of(web, lists, answer))
            self.assertEqual(answer[0] == "hueing", lists[0] == [0, 1, 2, 3])

    def test_parts_that_do_are_no_hindrance(self):
        # The first part does in very many ways, the second in none.
        web = (12, complete(5)[1] + ((6, 7), (7, 8), (6, 8)))
        answer = self.ask(from_lists, web, [[0, 1, 2, 3, 4]] * 10 + [[0, 1]] * 3)
        self.assertTrue(is_out_of(web, [[0, 1, 2, 3, 4]] * 10 + [[0, 1]] * 3, answer))
        self.assertEqual(answer[0], "none")


class Filled(Told):

    def check(self, web, hueing, hues):
        answer = self.ask(filled, web, hueing, hues)
        self.assertTrue(self.truth(shows_filled, web, hueing, hues, answer))
        if answer[0] == "hueing":
            self.assertTrue(all(now in range(hues) if hue is None else now == hue for hue, now in zip(hueing, answer[1])))
        return self.right(web, lists_ahead(hueing, hues), answer)

    def test_ordinary(self):
        self.assertEqual(self.check(PATH, [None, None, None], 2), "hueing")
        self.assertEqual(self.check(PATH, [None, None, None], 1), "none")
        self.assertEqual(self.check(PATH, [0, None, 1], 2), "none")
        self.assertEqual(self.check(PATH, [0, None, 1], 3), "hueing")
        self.assertEqual(self.check(PATH, [0, 1, 0], 2), "hueing")
        self.assertEqual(self.check(FIVE, [None] * 5, 2), "none")
        self.assertEqual(self.check(FIVE, [0, None, None, None, None], 3), "hueing")
        self.assertEqual(self.check(complete(4), [0, 1, None, None, None, None], 3), "hueing")
        self.assertEqual(self.check(complete(4), [0, None, None, None, None, 1], 3), "none")

    def test_hues_that_are_not_below_hues(self):
        self.assertEqual(self.check(PATH, [7, None, 199], 1), "hueing")
        self.assertEqual(self.check(PATH, [7, None, 199], 0), "none")
        self.assertEqual(self.check(PATH, [7, 5, 199], 0), "hueing")
        self.assertEqual(self.check(STAR, [1, None, 3, None], 2), "none")
        self.assertEqual(self.check(STAR, [1, None, 3, None], 3), "hueing")

    def test_no_hues(self):
        self.assertEqual(self.check(ONE_TIE, [None], 0), "none")
        self.assertEqual(self.check(ONE_TIE, [4], 0), "hueing")
        for web in (NOTHING, LONE, APART):
            self.assertEqual(self.ask(filled, web, [], 0), ("hueing", []))
            self.assertEqual(self.ask(filled, web, [], 5), ("hueing", []))

    def test_each_hueing_of_small_webs(self):
        words = []
        for web in small_webs(3, 3):
            for hueing in some_hueings(web, 3):
                for hues in range(4):
                    answer = filled(web, hueing, hues)
                    self.assertTrue(shows_filled(web, hueing, hues, answer))
                    words.append(self.right(web, lists_ahead(hueing, hues), answer))
        self.assertGreater(words.count("none"), 300)
        self.assertGreater(words.count("hueing"), 300)

    def test_webs_at_the_bounds(self):
        words = []
        for seed in range(60):
            web = chance_web(seed, 7 + seed % 6, 16)
            hues = 3 + seed % 3
            hueing = narrow_hueing(web, hues, seed)
            dice = random.Random(seed)
            hueing = [hue if dice.randrange(10) < seed % 8 else None for hue in hueing]
            answer = filled(web, hueing, hues)
            self.assertTrue(shows_filled(web, hueing, hues, answer))
            self.assertTrue(is_out_of(web, lists_ahead(hueing, hues), answer))
            words.append(answer[0])
        self.assertGreater(words.count("none"), 5)
        self.assertGreater(words.count("hueing"), 5)

    def test_more_hues_than_the_greatest_count(self):
        self.assertEqual(self.check(PETERSEN, [None] * 15, 3), "none")
        self.assertEqual(self.check(PETERSEN, [None] * 15, 4), "hueing")
        self.assertEqual(self.check(PETERSEN, [3] + [None] * 14, 4), "hueing")
        self.assertEqual(self.check(thick_ring(3, 2), [0, 1, 2, None, None, None], 5), "none")


if __name__ == "__main__":
    unittest.main()
