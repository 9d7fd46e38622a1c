"""[16]: hues out of lists for webs of two sides, and settled pairs."""

import itertools
import random
import unittest

from huedties.errors import NotTwoSides, ShortList
from huedties.sides import two_sides
from huedties.wishes import by_wishes, settled_pairs

from samples import (ALIKE, APART, LONE, NOTHING, ONE_TIE, PATH, SIDED, SQUARE, STAR, TRIANGLE, UNSIDED, Asking,
                     full_sides, is_good, meet, sided_web, small_sided_webs, thick_ring)


def most(web):
    ends = [place for tie in web[1] for place in tie]
    return max([ends.count(place) for place in ends], default=0)


def gives_way(web, ranks, tie, other):
    """Whether a tie meets another one at its place of side 0 with a greater number, or at side 1 with a lesser one."""
    sides = two_sides(web)[1]
    for place in web[1][tie]:
        if place in web[1][other]:
            if ranks[other] > ranks[tie] if sides[place] == 0 else ranks[other] < ranks[tie]:
                return True
    return False


def is_settled(web, ties, ranks, told):
    """Whether a list is what [16] tells of these ties, by its words."""
    if type(told) is not list or told != sorted(set(told)) or not set(told) <= set(ties):
        return False
    if any(meet(web, one, other) for one, other in itertools.combinations(told, 2)):
        return False
    return all(any(gives_way(web, ranks, tie, other) for other in told) for tie in ties if tie not in told)


def all_ranks(web, numbers):
    for ranks in itertools.product(numbers, repeat=len(web[1])):
        if not any(ranks[one] == ranks[other] and meet(web, one, other)
                   for one, other in itertools.combinations(range(len(ranks)), 2)):
            yield list(ranks)


class SettledPairs(Asking):

    def check(self, web, ties, ranks):
        told = self.ask(settled_pairs, web, ties, ranks)
        self.assertTrue(is_settled(web, ties, ranks, told), (web, ties, ranks, told))
        return told

    def test_ordinary(self):
        # The star's place is of side 0, so the greatest number goes; the other way about at its far side.
        self.assertEqual(self.check(STAR, [0, 1, 2, 3], [4, 9, 2, 7]), [1])
        self.assertEqual(self.check(STAR, [0, 3], [4, 9, 2, 7]), [3])
        self.assertEqual(self.check((4, ((0, 3), (1, 3), (2, 3))), [0, 1, 2], [5, 6, 1]), [2])
        self.assertEqual(self.check((3, ((0, 1), (0, 2))), [0, 1], [0, 1]), [1])
        self.assertEqual(self.check((3, ((0, 2), (1, 2))), [1, 0], [-5, 3]), [0])
        self.assertEqual(self.check(ALIKE, [2, 0, 1], [1, 0, 2]), self.check(ALIKE, [0, 1, 2], [1, 0, 2]))
        self.check(PATH, [0, 1, 2], [0, 1, 0])
        self.check(PATH, [0, 1, 2], [1, 0, 1])
        self.check(SQUARE, [3, 2, 1, 0], [10, 20, 10, 20])

    def test_no_ties_given(self):
        for web in (NOTHING, LONE, APART):
            self.assertEqual(self.ask(settled_pairs, web, [], []), [])
        self.assertEqual(self.ask(settled_pairs, PATH, [], [0, 1, 0]), [])
        self.assertEqual(self.ask(settled_pairs, ONE_TIE, [], [10 ** 30]), [])

    def test_one_tie_given(self):
        for tie in range(3):
            self.assertEqual(self.check(PATH, [tie], [0, 1, 0]), [tie])

    def test_small_webs(self):
        for web in small_sided_webs(4, 3):
            for ranks in all_ranks(web, (-1, 0, 5)):
                for size in range(len(ranks) + 1):
                    for ties in itertools.permutations(range(len(ranks)), size):
                        told = settled_pairs(web, list(ties), ranks)
                        self.assertTrue(is_settled(web, ties, ranks, told), (web, ties, ranks, told))

    def test_webs(self):
        for seed, web in enumerate(SIDED + [sided_web(seed, 4, 5, 30) for seed in range(300, 320)]):
            dice = random.Random(seed)
            ranks = dice.sample(range(-50, 150), len(web[1]))
            self.check(web, list(range(len(web[1]))), ranks)
            self.check(web, dice.sample(range(len(web[1])), len(web[1]) // 2), ranks)
            self.check(web, dice.sample(range(len(web[1])), len(web[1]) // 5), ranks)

    def test_refusals(self):
        for web in UNSIDED:
            self.unsided(settled_pairs, web, [0, 1], list(range(len(web[1]))))
            self.unsided(settled_pairs, web, [], list(range(len(web[1]))))


class ByWishes(Asking):

    def check(self, web, lists):
        hueing = self.ask(by_wishes, web, lists)
        self.assertTrue(is_good(web, hueing), (web, lists, hueing))
        self.assertTrue(all(hue is not None and hue in hues for hue, hues in zip(hueing, lists)), (web, lists, hueing))

    def test_ordinary(self):
        self.check(PATH, [[0, 1], [1, 2], [0, 2]])
        self.check(PATH, [[5, 199], [0, 5], [0, 7, 9]])
        self.check(ONE_TIE, [[3]])
        self.check(ALIKE, [[0, 1, 2], [0, 1, 2], [0, 1, 2]])
        self.check(ALIKE, [[0, 1, 2], [1, 2, 3], [2, 3, 4]])
        self.check(STAR, [[0, 1, 2, 3], [1, 2, 3, 4], [2, 3, 4, 5], [0, 1, 2, 3]])
        self.check(SQUARE, [[0, 1], [1, 2], [0, 2], [0, 1]])

    def test_no_ties(self):
        for web in (NOTHING, LONE, APART):
            self.assertEqual(self.ask(by_wishes, web, []), [])

    def test_each_lists_of_small_webs(self):
        for web in small_sided_webs(4, 3):
            for lists in itertools.product(itertools.combinations(range(4), most(web)), repeat=len(web[1])):
                hueing = by_wishes(web, list(lists))
                self.assertTrue(is_good(web, hueing))
                self.assertTrue(all(hue in hues for hue, hues in zip(hueing, lists)))

    def test_just_as_many_hues_as_the_greatest_count(self):
        webs = [web for web in SIDED if most(web) <= 12]
        webs += [full_sides(3, 3), full_sides(4, 4), full_sides(5, 5), full_sides(2, 7), thick_ring(6, 4)]
        for seed, web in enumerate(webs):
            dice = random.Random(seed)
            for pool in (most(web), most(web) + 1, most(web) + 3, 2 * most(web), 200):
                self.check(web, [sorted(dice.sample(range(pool), most(web))) for tie in web[1]])

    def test_lists_of_any_length(self):
        for seed in range(30):
            dice = random.Random(seed)
            web = sided_web(seed, 6, 7, 20)
            self.check(web, [sorted(dice.sample(range(15), dice.randrange(most(web), 13))) for tie in web[1]]
                       if most(web) <= 12 else [list(range(most(web)))] * len(web[1]))

    def test_webs_at_the_bounds(self):
        for seed, (one, other) in enumerate([(15, 15), (14, 16), (12, 18), (15, 15)]):
            web = sided_web(400 + seed, one, other, 90)
            dice = random.Random(seed)
            self.assertLessEqual(most(web), 14)
            self.check(web, [sorted(dice.sample(range(most(web) + 2), most(web))) for tie in web[1]])
            self.check(web, [sorted(dice.sample(range(200), most(web))) for tie in web[1]])

    def test_short_lists(self):
        self.short(PATH, [[0, 1], [1], [0]], 1)
        self.short(PATH, [[0, 1], [1, 2], [0]], 2)
        self.short(PATH, [[], [], []], 0)
        self.short(ONE_TIE, [[]], 0)
        self.short(STAR, [[0, 1, 2, 3], [0, 1, 2], [0, 1, 2, 3, 4], [0]], 1)
        self.short(ALIKE, [[0, 1, 2], [0, 1, 2], [3, 4]], 2)
        # Each place of the tie may have few ties: the greatest count of the web is asked for.
        self.short((7, STAR[1] + ((5, 6),)), [[0, 1, 2, 3]] * 4 + [[0, 1, 2]], 4)

    def short(self, web, lists, tie):
        error = self.refused(ShortList, by_wishes, web, lists)
        self.assertEqual(error.tie, tie)
        self.assertIs(type(error.tie), int)

    def test_webs_without_two_sides(self):
        for web in UNSIDED:
            self.unsided(by_wishes, web, [list(range(12))] * len(web[1]))
            # This refusal goes ahead of that of short lists.
            self.unsided(by_wishes, web, [[]] * len(web[1]))
        self.refused(NotTwoSides, by_wishes, TRIANGLE, [[0, 1], [0], []])


if __name__ == "__main__":
    unittest.main()
