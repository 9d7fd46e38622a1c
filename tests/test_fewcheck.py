"""[13] and the last sentence of [14]: papers of fewer hues, and what checks them."""

import itertools
import random
import unittest

from huedties.fewcheck import shows_fewer, shows_fewest

from samples import (ALIKE, APART, FIVE, LONE, NAMED, NOTHING, ODD_THINGS, ONE_TIE, PATH, PETERSEN, SQUARE, STAR,
                     TRIANGLE, TWO_ALIKE, Asking, complete, few_hues, greater_webs, grown, is_fewest, is_paper, nested,
                     small_webs, thick_ring, variants, whole_hueings)

# Trees: a tie, then the tree for each hue that it may have.
TWO_TREE = ("tree", (0, ((1, ()),)))
THREE_TREE = ("tree", (0, ((1, ((2, ()),)),)))
# Of a ring of five and two hues, going round.
FIVE_TREE = ("tree", (0, ((1, ((2, ((3, ((4, ()),)),)),)),)))
# There, too, with a tie that doesn't meet the first, so may have either hue: so it has two trees.
FORKED = ("tree", (0, ((2, ((3, ((4, ()),)), (1, ()))),)))


class ShowsFewer(Asking):

    def check(self, web, hues, paper):
        expected = is_paper(web, hues, paper)
        self.assertIs(self.truth(shows_fewer, web, hues, paper), expected, (web, hues, paper))
        return expected

    def takes(self, web, hues, paper):
        self.assertTrue(self.check(web, hues, paper), (web, hues, paper))

    def denies(self, web, hues, paper):
        self.assertFalse(self.check(web, hues, paper), (web, hues, paper))

    def test_places(self):
        self.takes(STAR, 3, ("place", 0))
        self.takes(STAR, 0, ("place", 0))
        self.takes(STAR, 0, ("place", 4))
        self.takes(ALIKE, 2, ("place", 1))
        self.denies(STAR, 4, ("place", 0))
        self.denies(STAR, 5, ("place", 0))
        self.denies(STAR, 1, ("place", 4))
        self.denies(APART, 0, ("place", 0))
        self.denies(NOTHING, 0, ("place", 0))
        for place in (-1, -5, 5, 10 ** 40, True, False, None, "0", [0], (0,), ()):
            self.denies(STAR, 0, ("place", place))
        for web in NAMED:
            for place, hues in itertools.product(range(-1, web[0] + 2), range(7)):
                self.check(web, hues, ("place", place))

    def test_sets(self):
        self.takes(TRIANGLE, 2, ("set", (0, 1, 2)))
        self.takes(thick_ring(3, 3), 8, ("set", (0, 1, 2)))
        self.denies(thick_ring(3, 3), 9, ("set", (0, 1, 2)))
        self.denies(TRIANGLE, 3, ("set", (0, 1, 2)))
        self.takes(FIVE, 2, ("set", (0, 1, 2, 3, 4)))
        self.denies(FIVE, 3, ("set", (0, 1, 2, 3, 4)))
        self.takes(complete(5), 4, ("set", (0, 1, 2, 3, 4)))
        self.denies(complete(5), 5, ("set", (0, 1, 2, 3, 4)))
        self.takes(PATH, 0, ("set", (0, 1, 3)))
        self.denies(PATH, 1, ("set", (0, 1, 3)))
        self.denies(PATH, 0, ("set", (0, 2, 3)[:2]))
        # An even number of places, one place, none, not rising, a place twice, a list.
        self.denies(complete(4), 0, ("set", (0, 1, 2, 3)))
        self.denies(ALIKE, 0, ("set", (0, 1)))
        self.denies(ALIKE, 0, ("set", (0,)))
        self.denies(ALIKE, 0, ("set", ()))
        for places in ((0, 2, 1), (2, 1, 0), (0, 1, 1), (0, 0, 1, 1, 2), [0, 1, 2], (0, True, 2), (False, 1, 2),
                       (0, 1, 3), (-1, 0, 1), (0, 1, 10 ** 40), (0, 1, None), (0, 1, "2"), ((0,), (1,), (2,)), "012",
                       None, 3):
            self.denies(TRIANGLE, 0, ("set", places))

    def test_each_set_of_places(self):
        found = 0
        for web in (TRIANGLE, TWO_ALIKE, FIVE, complete(4), complete(5), thick_ring(3, 2), thick_ring(5, 2), ALIKE):
            for size in range(6):
                for places in itertools.combinations(range(-1, web[0] + 1), size):
                    for hues in range(6):
                        found += self.check(web, hues, ("set", places))
        self.assertGreater(found, 50)

    def test_trees(self):
        self.takes(ONE_TIE, 0, ("tree", (0, ())))
        self.takes(PATH, 1, TWO_TREE)
        self.takes(ALIKE, 1, TWO_TREE)
        self.takes(ALIKE, 2, THREE_TREE)
        self.takes(TRIANGLE, 2, THREE_TREE)
        self.takes(FIVE, 2, FIVE_TREE)
        self.takes(FIVE, 2, FORKED)
        self.denies(ONE_TIE, 1, ("tree", (0, ())))
        self.denies(PATH, 2, TWO_TREE)
        self.denies(PATH, 0, TWO_TREE)
        self.denies(ALIKE, 3, THREE_TREE)
        self.denies(SQUARE, 2, ("tree", (0, ((1, ((2, ((3, ()),)),)),))))
        self.denies(NOTHING, 0, ("tree", (0, ())))
        self.denies(NOTHING, 0, ("tree", ()))
        self.denies(FIVE, 2, ("tree", FIVE_TREE))

    def test_spoilt_trees(self):
        end = (2, ())
        for tree in [
                # A tie twice on a way.
                (0, ((0, ((2, ()),)),)), (0, ((1, ((1, ()),)),)), (0, ((1, ((0, ()),)),)),
                # A tree too few, a tree too many.
                (0, ()), (0, ((1, ()),)), (0, ((1, (end, end)),)), (0, ((1, (end,)), (1, (end,)))), (0, ((1, ((2, (end,)),)),)),
                # Lists for tuples.
                [0, ((1, (end,)),)], (0, [(1, (end,))]), (0, ([1, (end,)],)), (0, ((1, [end]),)), (0, ((1, ([2, ()],)),)),
                (0, ((1, ((2, []),)),)),
                # True for 1, ties that aren't there, other things.
                (0, ((True, (end,)),)), (False, ((1, (end,)),)), (0, ((1, ((3, ()),)),)), (0, ((1, ((-1, ()),)),)),
                (-3, ((1, (end,)),)), (0, ((1, ((10 ** 40, ()),)),)), (0, ((None, (end,)),)), (0, (("1", (end,)),)),
                (0, ((1, (None,)),)), (0, (None,)), (0, None), (0,), (), (0, ((1, (end,)),), ()), (0, ((1, (end, ())),))]:
            self.denies(TRIANGLE, 2, ("tree", tree))
        self.takes(TRIANGLE, 2, ("tree", (0, ((1, (end,)),))))

    def test_hues_in_their_order(self):
        # With the hues 0 and 1 for the first tie, as of lists, it is no paper.
        inner = (1, ((2, ()),))
        self.takes(TRIANGLE, 2, ("tree", (0, (inner,))))
        self.denies(TRIANGLE, 2, ("tree", (0, (inner, inner))))
        # Behind a tie elsewhere both hues are open to a tie that meets none, but no third one.
        apart = (8, ((0, 1), (1, 2), (0, 2), (3, 4), (4, 5), (3, 5), (6, 7)))
        closed = (4, ((5, ()),))
        self.takes(apart, 2, ("tree", (3, (closed,))))
        self.takes(apart, 2, ("tree", (0, ((3, (closed, closed)),))))
        self.denies(apart, 2, ("tree", (0, ((3, (closed,)),))))
        self.takes(apart, 2, ("tree", (0, ((1, ((6, ((2, ()), (2, ()))),)),))))
        self.denies(apart, 2, ("tree", (0, ((1, ((6, ((2, ()),)),)),))))
        self.denies(apart, 2, ("tree", (0, ((1, ((6, ((2, ()),) * 3),)),))))

    def test_hues_that_meet_on_the_way(self):
        # Tie 1 meets 0 and 2 of a path, which may be alike or unlike.
        web = (4, PATH[1] + ((1, 2),))
        alike = (1, ((3, ()),))
        unlike = (1, ())
        self.takes(web, 2, ("tree", (0, ((2, (alike, unlike)),))))
        self.denies(web, 2, ("tree", (0, ((2, (unlike, alike)),))))
        self.denies(web, 2, ("tree", (0, ((2, (alike, alike)),))))
        self.denies(web, 2, ("tree", (0, ((2, (unlike, unlike)),))))

    def test_no_hues(self):
        for web in NAMED:
            for tie in range(-1, len(web[1]) + 1):
                self.assertIs(self.check(web, 0, ("tree", (tie, ()))), tie in range(len(web[1])))
                self.denies(web, 0, ("tree", (tie, ((tie, ()),))))

    def test_grown_trees(self):
        dice = random.Random(5)
        trees = 0
        webs = list(small_webs(3, 3)) + [FIVE, complete(4), complete(5), thick_ring(3, 2), PETERSEN]
        for web in webs:
            for hues in range(4):
                tree = grown(web, few_hues(web, hues), dice)
                if tree is not None:
                    self.takes(web, hues, ("tree", tree))
                    self.check(web, hues + 1, ("tree", tree))
                    self.check(web, max(hues - 1, 0), ("tree", tree))
                    trees += 1
        self.assertGreater(trees, 100)

    def test_what_is_taken_is_so(self):
        # Each tree of a small web, right or not, out of ties in each order: none is taken where there is a hueing.
        for web in small_webs(3, 3):
            hueings = [len(list(whole_hueings(web, hues))) for hues in range(4)]
            ties = range(len(web[1]))
            leaves = [(tie, ()) for tie in ties]
            seconds = leaves + [(tie, trees) for tie in ties for size in (1, 2)
                                for trees in itertools.product(leaves, repeat=size)]
            thirds = seconds + [(tie, (tree,)) for tie in ties for tree in seconds]
            for tree, hues in itertools.product(thirds, range(4)):
                if self.check(web, hues, ("tree", tree)):
                    self.assertEqual(hueings[hues], 0, (web, tree, hues))

    def test_one_thing_otherwise(self):
        for web, hues, paper in [(STAR, 3, ("place", 0)), (TRIANGLE, 2, ("set", (0, 1, 2))), (PATH, 1, TWO_TREE),
                                 (complete(5), 4, ("set", (0, 1, 2, 3, 4))), (TRIANGLE, 2, THREE_TREE),
                                 (FIVE, 2, FIVE_TREE), (FIVE, 2, FORKED), (ONE_TIE, 0, ("tree", (0, ())))]:
            self.takes(web, hues, paper)
            for other in variants(paper):
                self.check(web, hues, other)

    def test_words(self):
        for word in ("places", "Place", "sets", "trees", "", None, 0, True, (), ["place"], "none"):
            self.denies(STAR, 0, (word, 0))
            self.denies(TRIANGLE, 0, (word, (0, 1, 2)))
            self.denies(ONE_TIE, 0, (word, (0, ())))
        self.denies(STAR, 0, ["place", 0])
        self.denies(STAR, 0, ("place",))
        self.denies(STAR, 0, ("place", 0, 0))

    def test_odd_things(self):
        for web in NAMED + list(greater_webs())[-2:]:
            for thing in ODD_THINGS:
                for hues in (0, 2, 200):
                    self.check(web, hues, thing)
                    self.check(web, hues, ("place", thing))
                    self.check(web, hues, ("set", thing))
                    self.check(web, hues, ("tree", thing))

    def test_deep_and_wide(self):
        tree = (0, ())
        for tie in range(1, 19):
            tree = (tie, (tree,))
        ring = thick_ring(30, 3)
        self.denies(ring, 1, ("tree", tree))
        self.denies(ring, 1, ("tree", nested(39)))
        self.takes(ALIKE, 1, ("tree", (2, ((0, ()),))))
        thick = (2, ((0, 1),) * 20)
        tree = (19, ())
        for tie in range(18, -1, -1):
            tree = (tie, (tree,))
        self.takes(thick, 19, ("tree", tree))
        self.denies(thick, 20, ("tree", tree))
        self.takes(thick, 19, ("place", 1))


class ShowsFewest(Asking):

    def check(self, web, thing):
        expected = is_fewest(web, thing)
        self.assertIs(self.truth(shows_fewest, web, thing), expected, (web, thing))
        return expected

    RIGHT = [(NOTHING, (0, [], None)), (APART, (0, [], None)), (LONE, (0, (), None)),
             (ONE_TIE, (1, [0], ("place", 1))), (ONE_TIE, (1, [0], ("tree", (0, ())))),
             (PATH, (2, [1, 0, 1], ("place", 1))), (PATH, (2, (0, 1, 0), TWO_TREE)),
             (STAR, (4, [3, 0, 2, 1], ("place", 0))), (TRIANGLE, (3, [0, 2, 1], ("set", (0, 1, 2)))),
             (TRIANGLE, (3, [0, 1, 2], THREE_TREE)), (FIVE, (3, [0, 1, 0, 1, 2], FIVE_TREE)),
             (ALIKE, (3, [2, 0, 1], ("place", 0)))]

    def test_right_ones(self):
        for web, thing in self.RIGHT:
            self.assertTrue(self.check(web, thing), thing)

    def test_one_thing_otherwise(self):
        for web, thing in self.RIGHT:
            for other in variants(thing):
                self.check(web, other)

    def test_the_number(self):
        for number in (0, 1, 3, -1, 10 ** 40, True, None, "2", [2]):
            self.assertFalse(self.check(PATH, (number, [0, 1, 0], ("place", 1))))
        self.assertFalse(self.check(ONE_TIE, (True, [0], ("place", 1))))
        self.assertFalse(self.check(NOTHING, (False, [], None)))
        self.assertFalse(self.check(NOTHING, (-1, [], None)))
        for number in (-1, -2, -10 ** 40):
            self.assertFalse(self.check(APART, (number, [], ("place", 0))))
            self.assertFalse(self.check(APART, (number, [], ("set", (0, 1, 2)))))
        self.assertFalse(self.check(NOTHING, (1, [], None)))
        self.assertFalse(self.check(APART, (1, [], ("place", 0))))
        # A great number takes no long reckoning.
        for paper in (("place", 1), ("set", (0, 1, 2)), TWO_TREE, THREE_TREE):
            self.assertFalse(self.check(PATH, (10 ** 40, [0, 1, 0], paper)))

    def test_the_hueing(self):
        for hueing in ([0, 0, 1], [0, 1], [0, 1, 0, 1], [0, 1, 2], [0, None, 0], [0, 1, -1], [0, True, 0], [False, 1, 0],
                       [2, 1, 2], "010", None, [], [[0], [1], [0]], ["0", "1", "0"], [0, 10 ** 40, 0]):
            self.assertFalse(self.check(PATH, (2, hueing, ("place", 1))), hueing)
        self.assertTrue(self.check(PATH, (2, (0, 1, 0), ("place", 1))))

    def test_the_paper(self):
        for paper in (None, ("place", 0), ("place", 4), ["place", 1], ("set", (0, 1, 3)), THREE_TREE, (), "place", 1,
                      ("tree", (1, ())), ("place", True)):
            self.assertFalse(self.check(PATH, (2, [0, 1, 0], paper)), paper)
        for paper in (("place", 0), (), False, 0, "", ("tree", ())):
            self.assertFalse(self.check(APART, (0, [], paper)), paper)

    def test_the_tuple(self):
        self.assertFalse(self.check(PATH, [2, [0, 1, 0], ("place", 1)]))
        self.assertFalse(self.check(PATH, (2, [0, 1, 0])))
        self.assertFalse(self.check(PATH, (2, [0, 1, 0], ("place", 1), None)))

    def test_odd_things(self):
        for web in NAMED:
            for thing in ODD_THINGS:
                self.check(web, thing)
                self.check(web, (2, thing, ("place", 0)))
                self.check(web, (thing, [], None))
                self.check(web, (3, [0, 1, 2], thing))

    def test_what_is_taken_is_so(self):
        for web in small_webs(3, 3):
            fewest = [hues for hues in range(4) if list(whole_hueings(web, hues))][0]
            papers = [None] + [("place", place) for place in range(web[0])] + [("set", (0, 1, 2)), TWO_TREE, THREE_TREE]
            for hueing in whole_hueings(web, 3):
                for number, paper in itertools.product(range(5), papers):
                    if self.check(web, (number, hueing, paper)):
                        self.assertEqual(number, fewest)


if __name__ == "__main__":
    unittest.main()
