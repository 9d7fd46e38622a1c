"""[19]: what checks whole hueings with as few changes as can be."""

import itertools
import random
import unittest

from huedties.changecheck import shows_changed

from samples import (ALIKE, APART, LONE, NAMED, NOTHING, ODD_THINGS, ONE_TIE, PATH, SQUARE, STAR, TRIANGLE, Asking,
                     chance_web, change_tree, fewest_changes, hueing_of, is_changed, narrow_hueing, nested, small_webs,
                     some_hueings, thick_ring, variants, whole_hueings)

DEAR = ("dear",)
# Of a path hued 0 and 1 at its ends, and of two hues: whichever hue the middle has, one of the ends can't keep its own.
ENDS = [0, None, 1]
ONCE = ("try", 1, (DEAR, DEAR))
LEAST = ("least", 1, [0, 1, 0], ONCE)
# Of a triangle and two hues.
LEAF = ("try", 2, ())
NONE = ("try", 0, (("try", 1, (LEAF,)), ("try", 1, (LEAF,))))


class ShowsChanged(Asking):

    def check(self, web, hueing, hues, thing):
        expected = is_changed(web, hueing, hues, thing)
        self.assertIs(self.truth(shows_changed, web, hueing, hues, thing), expected, (web, hueing, hues, thing))
        self.assertIs(shows_changed(web, tuple(hueing), hues, thing), expected)
        return expected

    def takes(self, web, hueing, hues, thing):
        self.assertTrue(self.check(web, hueing, hues, thing), (web, hueing, hues, thing))

    def denies(self, web, hueing, hues, thing):
        self.assertFalse(self.check(web, hueing, hues, thing), (web, hueing, hues, thing))

    def test_right_ones(self):
        self.takes(PATH, ENDS, 2, LEAST)
        self.takes(PATH, ENDS, 2, ("least", 1, (1, 0, 1), ONCE))
        # Other trees do, too: dear where a tie is another one's, or only later than it might be.
        self.takes(PATH, ENDS, 2, ("least", 1, [0, 1, 0], ("try", 0, (("try", 1, (DEAR,)), DEAR))))
        self.takes(PATH, ENDS, 2, ("least", 1, [0, 1, 0], ("try", 0, (("try", 1, (("try", 2, (DEAR,)),)), DEAR))))
        self.takes(PATH, ENDS, 2, ("least", 1, [0, 1, 0], ("try", 2, (DEAR, ("try", 0, (("try", 1, ()), DEAR))))))
        self.takes(SQUARE, [0, 1, 0, 1], 2, ("least", 0, [0, 1, 0, 1], DEAR))
        self.takes(PATH, [None, None, None], 2, ("least", 0, [1, 0, 1], DEAR))
        self.takes(PATH, [9, None, 199], 2, ("least", 2, [0, 1, 0], DEAR))
        self.takes(TRIANGLE, [None] * 3, 2, ("none", NONE))
        self.takes(TRIANGLE, [7, 0, 1], 2, ("none", NONE))
        self.takes(ONE_TIE, [None], 0, ("none", ("try", 0, ())))
        for web in (NOTHING, LONE, APART):
            self.takes(web, [], 0, ("least", 0, [], DEAR))
            self.takes(web, [], 5, ("least", 0, (), DEAR))
            self.denies(web, [], 0, ("none", DEAR))
            self.denies(web, [], 0, ("none", ("try", 0, ())))
            self.denies(web, [], 0, ("least", 0, [], ("try", 0, ())))

    def test_numbers(self):
        for number in (0, 2, 3, -1, 10 ** 40, True, "1", None, [1], (1,)):
            self.denies(PATH, ENDS, 2, ("least", number, [0, 1, 0], ONCE))
        self.denies(SQUARE, [0, 1, 0, 1], 2, ("least", False, [0, 1, 0, 1], DEAR))
        # A hueing with so many changes, but a tree that can't show that fewer don't do.
        self.denies(PATH, ENDS, 2, ("least", 2, [1, 2, 0], ("try", 1, (DEAR, DEAR))))
        self.denies(SQUARE, [0, 1, 0, 1], 2, ("least", 4, [1, 0, 1, 0], DEAR))
        self.denies(SQUARE, [0, 1, 0, 1], 2, ("least", 4, [1, 0, 1, 0], ("try", 0, (DEAR, DEAR))))

    def test_hueings(self):
        for whole in ([0, 0, 1], [0, 1, 1], [0, 1, None], [None, 1, 0], [0, 1], [0, 1, 0, 1], [0, 2, 1], [2, 1, 0], [],
                      None, "010", 0, [0, True, 0], [0, 1, -1], [[0], 1, 0], [False, 1, 0], [0, 1, 10 ** 40], LEAST):
            self.denies(PATH, ENDS, 2, ("least", 1, whole, ONCE))
        # Below hues, though none of the old ones.
        self.denies(PATH, [None] * 3, 2, ("least", 0, [0, 2, 0], DEAR))
        self.takes(PATH, [None] * 3, 3, ("least", 0, [0, 2, 0], DEAR))

    def test_dear_too_early(self):
        self.denies(PATH, ENDS, 2, ("least", 1, [0, 1, 0], DEAR))
        self.denies(PATH, ENDS, 2, ("least", 1, [0, 1, 0], ("try", 0, (DEAR, DEAR))))
        self.denies(PATH, ENDS, 2, ("least", 1, [0, 1, 0], ("try", 2, (DEAR, DEAR))))
        # Of two paths two changes are due, and one of them is known behind the first try.
        two = (8, PATH[1] + ((4, 5), (5, 6), (6, 7)))
        both = ("try", 1, (("try", 4, (DEAR, DEAR)), ("try", 4, (DEAR, DEAR))))
        self.takes(two, ENDS * 2, 2, ("least", 2, [0, 1, 0, 0, 1, 0], both))
        self.denies(two, ENDS * 2, 2, ("least", 2, [0, 1, 0, 0, 1, 0], ("try", 1, (DEAR, ("try", 4, (DEAR, DEAR))))))
        self.denies(two, ENDS * 2, 2, ("least", 2, [0, 1, 0, 0, 1, 0], ("try", 1, (("try", 4, (DEAR, DEAR)), DEAR))))
        self.denies(two, ENDS * 2, 2, ("least", 1, [0, 1, 0, 0, 1, 0], both))

    def test_what_counts_as_dear(self):
        # Another hue on the way, a hue that isn't below hues, on the way or not, one that a tie on the way has.
        self.takes(STAR, [0, 9, 1, None], 4, ("least", 1, [0, 2, 1, 3], DEAR))
        self.denies(STAR, [0, 9, 1, None], 4, ("least", 2, [2, 0, 1, 3], DEAR))
        self.denies(STAR, [0, 2, 1, None], 4, ("least", 2, [2, 0, 1, 3], ("try", 3, (DEAR,) * 4)))
        self.takes(STAR, [0, 9, 1, None], 4, ("least", 1, [0, 2, 1, 3], ("try", 1, (DEAR,) * 4)))
        # Ties without hues may get any.
        self.denies(STAR, [None, None, None, None], 4, ("least", 1, [0, 1, 2, 3], ("try", 0, (DEAR,) * 4)))
        self.denies(STAR, [None, None, 0, None], 4, ("least", 1, [0, 1, 2, 3], ("try", 0, (DEAR,) * 4)))
        # A tie that doesn't meet it may have its hue.
        self.denies((4, ((0, 1), (2, 3))), [None, 0], 1, ("least", 1, [0, 0], ("try", 0, (DEAR,))))

    def test_trees_otherwise(self):
        for tree in [("try", 1, (DEAR,)), ("try", 1, (DEAR, DEAR, DEAR)), ("try", 1, ()), ("try", 0, (ONCE, ONCE)),
                     ("try", 1, (ONCE, DEAR)), ("try", 1, (DEAR, ("try", 1, (DEAR,)))), ("try", 3, (DEAR, DEAR)),
                     ("try", -2, (DEAR, DEAR)), ("try", True, (DEAR, DEAR)), ("try", "1", (DEAR, DEAR)),
                     ("try", None, (DEAR, DEAR)), ("try", [1], (DEAR, DEAR)), ["try", 1, (DEAR, DEAR)],
                     ("try", 1, [DEAR, DEAR]), ("try", 1, (DEAR, ["dear"])), ("try", 1, (DEAR, "dear")), ("try", 1),
                     ("try", 1, (DEAR, ())), ("try", 1, (DEAR, ("dear", ()))), ("try", 1, (DEAR, ("cheap",))),
                     ("try", 1, (DEAR, None)), ("try", 1, (DEAR, DEAR), ()), ("tried", 1, (DEAR, DEAR)), (1, (DEAR, DEAR)),
                     ("dear", 1, (DEAR, DEAR)), ("none", 1, (DEAR, DEAR)), ("try", 1, None), ("try", 10 ** 40, (DEAR, DEAR)),
                     (), None, "dear", 0, ["dear"], ("try",), ("least",), (("dear",),), (None,), ("try", 1, DEAR)]:
            self.denies(PATH, ENDS, 2, ("least", 1, [0, 1, 0], tree))
            self.denies(PATH, ENDS, 2, ("none", tree))

    def test_order_of_trees(self):
        # With its own hue the first tie leaves the others something to try, with another one it is dear.
        inner = ("try", 2, (DEAR, ("try", 1, ())))
        self.takes(PATH, ENDS, 2, ("least", 1, [0, 1, 0], ("try", 0, (inner, DEAR))))
        self.takes(PATH, ENDS, 2, ("least", 1, [0, 1, 0], ("try", 0, (inner, ("try", 2, (DEAR, DEAR))))))
        self.denies(PATH, ENDS, 2, ("least", 1, [0, 1, 0], ("try", 0, (DEAR, inner))))
        self.denies(PATH, ENDS, 2, ("least", 1, [0, 1, 0], ("try", 0, (("try", 2, (("try", 1, ()), DEAR)), DEAR))))

    def test_hues_that_meet_on_the_way(self):
        web = ALIKE
        self.takes(web, [0, None, None], 3, ("least", 0, [0, 2, 1], DEAR))
        self.takes(web, [None] * 3, 2, ("none", NONE))
        self.denies(web, [None] * 3, 2, ("none", ("try", 0, (("try", 1, (LEAF, LEAF)), ("try", 1, (LEAF,))))))
        self.denies(web, [None] * 3, 2, ("none", ("try", 0, (("try", 1, (LEAF,)), ("try", 1, ())))))

    def test_none(self):
        for tree in [DEAR, ("try", 0, (DEAR, DEAR)), ("try", 0, (("try", 1, (DEAR,)), ("try", 1, (LEAF,)))),
                     ("try", 0, (("try", 1, (LEAF,)), DEAR)), (0, ((1, ((2, ()),)), (1, ((2, ()),)))), LEAF,
                     ("try", 0, (("try", 1, (LEAF,)),)), ("try", 0, (("try", 1, (LEAF,)), ("try", 0, (LEAF,))))]:
            self.denies(TRIANGLE, [9, 9, 9], 2, ("none", tree))
            self.denies(TRIANGLE, [0, 1, None], 2, ("none", tree))
        self.denies(TRIANGLE, [0, 1, None], 3, ("none", NONE))
        self.denies(PATH, ENDS, 2, ("none", NONE))
        for thing in [["none", NONE], ("none",), ("none", NONE, 0), ("none", 0, [0, 1, 2], NONE), ("least", NONE),
                      ("None", NONE), ("none", [NONE])]:
            self.denies(TRIANGLE, [0, 1, None], 2, thing)

    def test_other_words(self):
        for thing in [("most", 1, [0, 1, 0], ONCE), ["least", 1, [0, 1, 0], ONCE], ("least", 1, [0, 1, 0]),
                      ("least", 1, [0, 1, 0], ONCE, None), ("none", 1, [0, 1, 0], ONCE), (1, [0, 1, 0], ONCE),
                      (True, 1, [0, 1, 0], ONCE), ("LEAST", 1, [0, 1, 0], ONCE), (("least",), 1, [0, 1, 0], ONCE)]:
            self.denies(PATH, ENDS, 2, thing)

    def test_grown_trees(self):
        dice = random.Random(5)
        words = []
        for seed in range(200):
            web = chance_web(seed, 4 + seed % 4, 3 + seed % 4)
            hues = 2 + seed % 3
            hueing = narrow_hueing(web, hues + seed % 2, seed)
            number = fewest_changes(web, hueing, hues)
            tree = change_tree(web, hueing, hues, number, dice)
            if number is None:
                self.takes(web, hueing, hues, ("none", tree))
                words.append("none")
                continue
            for whole in whole_hueings(web, hues):
                count = len([hue for hue, later in zip(hueing, whole) if hue is not None and hue != later])
                thing = ("least", count, whole, tree)
                self.assertIs(shows_changed(web, hueing, hues, thing), count == number, (web, hueing, hues, thing))
            words.append(number)
            # One more than the least isn't shown by any tree.
            self.assertIsNone(change_tree(web, hueing, hues, number + 1, dice))
        for word in ("none", 0, 1, 2):
            self.assertGreater(words.count(word), 5, word)

    def test_small_trees_of_small_webs(self):
        # Each tree of three nodes deep at most that is made of two ties: whatever is taken is so.
        leaves = [DEAR, ("try", 0, ()), ("try", 1, ())]
        inner = leaves + [("try", tie, trees) for tie in (0, 1) for size in (1, 2)
                          for trees in itertools.product(leaves, repeat=size)]
        trees = inner + [("try", tie, pair) for tie in (0, 1) for pair in itertools.product(inner, repeat=2)]
        for web in [(3, ((0, 1), (1, 2))), (4, ((0, 1), (2, 3))), (2, ((0, 1), (0, 1)))]:
            for hueing in some_hueings(web, 3):
                for hues in (1, 2):
                    self.look_at_trees(web, hueing, hues, trees)

    def look_at_trees(self, web, hueing, hues, trees):
        least = fewest_changes(web, hueing, hues)
        wholes = list(whole_hueings(web, hues))[:2]
        for tree in trees:
            if shows_changed(web, hueing, hues, ("none", tree)):
                self.assertIsNone(least)
            for whole in wholes:
                number = len([hue for hue, later in zip(hueing, whole) if hue not in (None, later)])
                if shows_changed(web, hueing, hues, ("least", number, whole, tree)):
                    self.assertEqual(number, least)

    def test_one_thing_otherwise(self):
        for web, hueing, hues, thing in [
                (PATH, ENDS, 2, LEAST), (TRIANGLE, [0, 1, None], 2, ("none", NONE)), (NOTHING, [], 3, ("least", 0, [], DEAR)),
                (ONE_TIE, [4], 0, ("none", ("try", 0, ()))), (PATH, [9, None, 199], 2, ("least", 2, (0, 1, 0), DEAR)),
                (PATH, ENDS, 2, ("least", 1, [0, 1, 0], ("try", 2, (DEAR, ("try", 0, (("try", 1, ()), DEAR))))))]:
            self.takes(web, hueing, hues, thing)
            for other in variants(thing):
                self.check(web, hueing, hues, other)

    def test_odd_things(self):
        for web in NAMED:
            for hueing in ([None] * len(web[1]), hueing_of(web, 3)):
                for thing in ODD_THINGS + [nested(37), ("try", 0, nested(38)), ("dear", nested(3))]:
                    for hues in (0, 3, 200):
                        self.check(web, hueing, hues, thing)
                        self.check(web, hueing, hues, ("none", thing))
                        self.check(web, hueing, hues, ("least", 0, hueing, thing))
                        self.check(web, hueing, hues, ("least", thing, thing, DEAR))
                        self.check(web, hueing, hues, ("none", ("try", 0, (thing,) * hues)))

    def test_great_webs(self):
        ring = thick_ring(30, 3)
        whole = [tie % 30 % 2 + tie // 30 * 2 for tie in range(90)]
        self.takes(ring, whole, 6, ("least", 0, whole, DEAR))
        self.takes(ring, [199] + whole[1:], 200, ("least", 0, [199] + whole[1:], DEAR))
        self.takes(ring, [199] + whole[1:], 6, ("least", 1, whole, DEAR))
        self.denies(ring, [100] + whole[1:], 200, ("least", 1, whole, DEAR))
        self.takes(ring, whole, 0, ("none", ("try", 89, ())))


if __name__ == "__main__":
    unittest.main()
