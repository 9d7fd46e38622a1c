"""[15]: what checks hues out of lists, and with some ties hued ahead."""

import itertools
import random
import unittest

from huedties.listcheck import shows_filled, shows_lists

from samples import (ALIKE, APART, FIVE, NAMED, NOTHING, ODD_THINGS, ONE_TIE, PATH, SQUARE, STAR, TRIANGLE, Asking,
                     chance_web, grown, has_hueing, is_out_of, list_hues, lists_ahead, small_webs, thick_ring, variants)

TWO = [[0, 1]] * 3
# Of a triangle and two hues: both hues for the first tie, the other one for the second, none for the third.
LEAF = (2, ())
TREE = (0, ((1, (LEAF,)), (1, (LEAF,))))


class ShowsLists(Asking):

    def check(self, web, lists, thing):
        expected = is_out_of(web, lists, thing)
        self.assertIs(self.truth(shows_lists, web, lists, thing), expected, (web, lists, thing))
        self.assertIs(shows_lists(web, tuple([tuple(hues) for hues in lists]), thing), expected)
        return expected

    def takes(self, web, lists, thing):
        self.assertTrue(self.check(web, lists, thing), (web, lists, thing))

    def denies(self, web, lists, thing):
        self.assertFalse(self.check(web, lists, thing), (web, lists, thing))

    def test_hueings(self):
        self.takes(PATH, TWO, ("hueing", [0, 1, 0]))
        self.takes(PATH, TWO, ("hueing", (1, 0, 1)))
        self.takes(PATH, [[3], [4, 7], [199]], ("hueing", [3, 7, 199]))
        self.takes(NOTHING, [], ("hueing", []))
        self.takes(APART, [], ("hueing", ()))
        for hueing in ([0, 1, 2], [2, 1, 0], [0, 0, 1], [1, 0, 0], [None, 1, 0], [0, 1, None], [0, 1], [0, 1, 0, 1],
                       [False, 1, 0], [0, True, 0], [0, 1, -1], [0, 1, "0"], [0, 1, [0]], [], "010", None, 0,
                       [0, 1, 10 ** 40], [[0, 1, 0]]):
            self.denies(PATH, TWO, ("hueing", hueing))
        self.denies(PATH, [[0, 1], [], [0, 1]], ("hueing", [0, 1, 0]))
        self.denies(PATH, TWO, ["hueing", [0, 1, 0]])
        self.denies(PATH, TWO, ("hueing", [0, 1, 0], None))
        self.denies(PATH, TWO, ("hueing",))
        self.denies(PATH, TWO, ("none", [0, 1, 0]))
        self.denies(NOTHING, [], ("none", ()))
        self.denies(NOTHING, [], ("none", (0, ())))

    def test_trees(self):
        self.takes(TRIANGLE, TWO, ("none", TREE))
        self.takes(ALIKE, TWO, ("none", TREE))
        self.takes(ONE_TIE, [[]], ("none", (0, ())))
        self.takes(PATH, [[0, 1], [], [0]], ("none", (1, ())))
        self.takes(PATH, [[4], [4, 6], [6]], ("none", (0, ((1, ((2, ()),)),))))
        self.takes(PATH, [[4], [4, 6], [6]], ("none", (2, ((0, ((1, ()),)),))))
        self.takes(PATH, [[4], [4, 6], [6]], ("none", (1, ((0, ()), (2, ())))))
        # The same trees, in the order of the hues.
        self.denies(PATH, [[4], [4, 6], [6]], ("none", (1, ((2, ()), (0, ())))))
        self.denies(PATH, [[4], [4, 6], [6]], ("none", (1, ((0, ()), (0, ())))))
        self.denies(PATH, TWO, ("none", TREE))
        self.denies(TRIANGLE, [[0, 1], [0, 1], [0, 2]], ("none", TREE))
        self.denies(TRIANGLE, TWO, ("hueing", TREE))
        self.denies(TRIANGLE, TWO, ("tree", TREE))
        self.denies(TRIANGLE, TWO, ["none", TREE])
        # Where hues that aren't on the way count as alike, this would be one; of lists it isn't.
        self.denies(TRIANGLE, TWO, ("none", (0, ((1, (LEAF,)),))))

    def test_spoilt_trees(self):
        side = (1, (LEAF,))
        for tree in [
                # A tree too few or too many.
                (0, (side,)), (0, (side, side, side)), (0, (side, (1, ()))), (0, (side, (1, (LEAF, LEAF)))), (0, ()), LEAF,
                (0, (side, (1, ((2, (LEAF,)),)))),
                # A tie twice on a way.
                (0, (side, (0, (LEAF,)))), (0, (side, (1, ((1, ()),)))), (0, (side, (1, ((0, ()),)))),
                # Lists for tuples, True for 1, other things.
                [0, (side, side)], (0, [side, side]), (0, (side, [1, (LEAF,)])), (0, (side, (1, [LEAF]))),
                (0, (side, (1, ([2, ()],)))), (0, (side, (1, ((2, []),)))), (0, (side, (True, (LEAF,)))),
                (False, (side, side)), (0, (side, (-2, (LEAF,)))), (0, (side, (1, ((3, ()),)))), (-3, (side, side)),
                (0, (side, (1, ((10 ** 40, ()),)))), (0, (side, None)), (0, (None, side)), (0, (side, ())), (0, None),
                (0,), (), None, 0, (0, (side, side), ()), ("0", (side, side)), (None, (side, side))]:
            self.denies(TRIANGLE, TWO, ("none", tree))

    def test_hues_that_meet_on_the_way(self):
        # Tie 1 meets both others of a path; with the hues alike one is left for it.
        lists = [[0, 1], [0, 1], [0, 1]]
        web = (4, PATH[1] + ((1, 2),))
        lists = lists + [[0, 1]]
        none, one = (1, ()), (1, ((3, ()),))
        self.takes(web, lists, ("none", (0, ((2, (one, none)), (2, (none, one))))))
        self.denies(web, lists, ("none", (0, ((2, (none, one)), (2, (none, one))))))
        self.denies(web, lists, ("none", (0, ((2, (one, one)), (2, (none, one))))))
        self.denies(web, lists, ("none", (0, ((2, (one, none)), (2, (one, none))))))

    def test_grown_trees(self):
        dice = random.Random(2)
        trees = 0
        for seed in range(150):
            web = chance_web(seed, 4 + seed % 3, 3 + seed % 5)
            lists = [sorted(dice.sample(range(4), dice.randrange(4))) for tie in web[1]]
            tree = grown(web, list_hues(web, lists), dice)
            if tree is not None:
                self.takes(web, lists, ("none", tree))
                trees += 1
                longer = [sorted(set(hues) | {dice.randrange(5)}) for hues in lists]
                self.check(web, longer, ("none", tree))
        self.assertGreater(trees, 50)

    def test_what_is_taken_is_so(self):
        subsets = [[], [0], [1], [0, 1], [0, 2]]
        for web in small_webs(3, 2):
            ties = range(len(web[1]))
            leaves = [(tie, ()) for tie in ties]
            trees = leaves + [(tie, later) for tie in ties for size in (1, 2)
                              for later in itertools.product(leaves, repeat=size)]
            hueings = list(itertools.product(range(3), repeat=len(web[1])))
            for lists in itertools.product(subsets, repeat=len(web[1])):
                possible = has_hueing(web, lists)
                for tree in trees:
                    if self.check(web, list(lists), ("none", tree)):
                        self.assertFalse(possible)
                for hueing in hueings:
                    if self.check(web, list(lists), ("hueing", list(hueing))):
                        self.assertTrue(possible)

    def test_one_thing_otherwise(self):
        for web, lists, thing in [(PATH, TWO, ("hueing", [0, 1, 0])), (TRIANGLE, TWO, ("none", TREE)),
                                  (ONE_TIE, [[]], ("none", (0, ()))), (NOTHING, [], ("hueing", [])),
                                  (PATH, [[1], [1, 2], [2]], ("none", (1, ((0, ()), (2, ()))))),
                                  (SQUARE, [[0], [1], [0], [1]], ("hueing", (0, 1, 0, 1)))]:
            self.takes(web, lists, thing)
            for other in variants(thing):
                self.check(web, lists, other)

    def test_odd_things(self):
        for web in NAMED:
            for lists in ([[0, 1]] * len(web[1]), [[]] * len(web[1]), [[0, 5, 199]] * len(web[1])):
                for thing in ODD_THINGS:
                    self.check(web, lists, thing)
                    self.check(web, lists, ("hueing", thing))
                    self.check(web, lists, ("none", thing))
                    self.check(web, lists, (thing, thing))


class ShowsFilled(Asking):

    def check(self, web, hueing, hues, thing):
        expected = is_out_of(web, lists_ahead(hueing, hues), thing)
        self.assertIs(self.truth(shows_filled, web, hueing, hues, thing), expected, (web, hueing, hues, thing))
        self.assertIs(shows_filled(web, tuple(hueing), hues, thing), expected)
        return expected

    def takes(self, web, hueing, hues, thing):
        self.assertTrue(self.check(web, hueing, hues, thing), (web, hueing, hues, thing))

    def denies(self, web, hueing, hues, thing):
        self.assertFalse(self.check(web, hueing, hues, thing), (web, hueing, hues, thing))

    def test_hueings(self):
        self.takes(PATH, [0, None, None], 2, ("hueing", [0, 1, 0]))
        self.takes(PATH, [0, None, None], 2, ("hueing", (0, 1, 0)))
        self.takes(PATH, [9, None, None], 2, ("hueing", [9, 1, 0]))
        self.takes(PATH, [9, 8, 9], 0, ("hueing", [9, 8, 9]))
        self.takes(APART, [], 0, ("hueing", []))
        for hueing in ([1, 0, 1], [0, 1, 2], [0, 1, 1], [0, 0, 1], [0, 1, None], [None, 1, 0], [0, 1], [0, 1, 0, 0],
                       [False, 1, 0], [0, True, 0], [0, 1, -2], None, "010", [0, 2, 0], [0, 10 ** 40, 0]):
            self.denies(PATH, [0, None, None], 2, ("hueing", hueing))
        self.denies(PATH, [9, None, None], 2, ("hueing", [9, 9, 0]))
        self.denies(PATH, [9, None, None], 2, ("hueing", [0, 1, 0]))
        self.denies(PATH, [9, 8, 9], 0, ("hueing", [9, 8, 7]))

    def test_trees(self):
        self.takes(PATH, [0, None, 1], 2, ("none", (0, ((2, ((1, ()),)),))))
        self.takes(PATH, [0, None, 1], 2, ("none", (1, ((0, ()), (2, ())))))
        self.takes(PATH, [7, None, 7], 0, ("none", (1, ())))
        self.takes(PATH, [None, None, 9], 1, ("none", (0, ((1, ()),))))
        self.takes(TRIANGLE, [None] * 3, 2, ("none", TREE))
        self.denies(TRIANGLE, [0, None, None], 2, ("none", TREE))
        self.takes(TRIANGLE, [0, None, None], 2, ("none", (0, ((1, (LEAF,)),))))
        self.denies(TRIANGLE, [3, None, None], 2, ("none", (0, ((1, (LEAF,)),))))
        # A tie that was hued ahead counts only where it is on the way.
        self.denies(PATH, [0, None, 1], 2, ("none", (1, ())))
        self.denies(PATH, [0, None, 1], 2, ("none", (1, ((2, ()), (0, ())))))
        self.denies(PATH, [0, None, None], 2, ("none", (0, ((1, ((2, ()),)),))))
        self.denies(PATH, [0, 1, 0], 2, ("none", (0, ((1, ((2, ()),)),))))

    def test_one_thing_otherwise(self):
        for web, hueing, hues, thing in [(PATH, [0, None, 1], 2, ("none", (1, ((0, ()), (2, ()))))),
                                         (PATH, [5, None, None], 2, ("hueing", [5, 1, 0])),
                                         (FIVE, [0, 1, None, None, 2], 3, ("hueing", [0, 1, 0, 1, 2])),
                                         (STAR, [None, 7, None, None], 1, ("none", (0, ((3, ()),)))),
                                         (TRIANGLE, [None] * 3, 2, ("none", TREE))]:
            self.takes(web, hueing, hues, thing)
            for other in variants(thing):
                self.check(web, hueing, hues, other)

    def test_odd_things(self):
        for web in NAMED:
            for hueing in ([None] * len(web[1]), list(range(len(web[1])))):
                for thing in ODD_THINGS:
                    for hues in (0, 2, 200):
                        self.check(web, hueing, hues, thing)
                        self.check(web, hueing, hues, ("hueing", thing))
                        self.check(web, hueing, hues, ("none", thing))

    def test_great_webs(self):
        ring = thick_ring(30, 3)
        self.takes(ring, [None] * 90, 9, ("hueing", [tie % 30 % 2 + tie // 30 * 2 for tie in range(90)]))
        self.denies(ring, [None] * 90, 5, ("hueing", [tie % 30 % 2 + tie // 30 * 2 for tie in range(90)]))
        self.takes(ring, [None] * 90, 0, ("none", (77, ())))


if __name__ == "__main__":
    unittest.main()
