"""[22]: webs glued together out of their blocks."""

import itertools
import unittest

from huedties.fewest import fewest
from huedties.gluing import by_blocks, glued, shows_blocks

from samples import (ALIKE, APART, FIVE, LONE, MINGLED, NAMED, NOTHING, ODD_THINGS, ONE_TIE, PATH, PETERSEN, SIDED, SQUARE,
                     STAR, TRIANGLE, TWO_ALIKE, UNSIDED, Asking, blocks_of, chance_web, complete, ends_of, greater_webs,
                     grown_web, hueing_of, is_by_blocks, is_good, joined_webs, small_webs, some_of, thick_ring, variants)

# Two triangles joined at place 2.
TWO_RINGS = (5, ((0, 1), (1, 2), (0, 2), (2, 3), (3, 4), (2, 4)))


def most(web):
    return max([ends_of(web).count(place) for place in ends_of(web)], default=0)


class Glued(Asking):

    def check(self, web, hueings):
        whole = self.ask(glued, web, hueings)
        self.look(web, hueings, whole)
        return whole

    def look(self, web, hueings, whole):
        greatest = max([hue + 1 for hueing in hueings for hue in hueing], default=0)
        self.assertTrue(is_good(web, whole), (web, hueings, whole))
        self.assertTrue(all(hue is not None and hue < max(most(web), greatest) for hue in whole), (web, hueings, whole))
        for block, hueing in zip(blocks_of(web), hueings):
            names = {(hue, whole[tie]) for tie, hue in zip(block, hueing)}
            self.assertEqual(len(names), len({hue for hue, name in names}), "a hue has two names")
            self.assertEqual(len(names), len({name for hue, name in names}), "two hues have one name")

    def hueings(self, web, seed, extra):
        return [hueing_of(some_of(web, block), seed + at, extra=extra) for at, block in enumerate(blocks_of(web))]

    def test_known(self):
        self.assertEqual(self.check(ONE_TIE, [[0]]), [0])
        self.assertEqual(self.check(NOTHING, []), [])
        self.assertEqual(self.check(APART, []), [])
        self.assertEqual(sorted(self.check(STAR, [[0], [0], [0], [0]])), [0, 1, 2, 3])
        self.assertEqual(self.check(PATH, [[0], [0], [0]])[1], 1 - self.check(PATH, [[0], [0], [0]])[0])
        self.check(TWO_RINGS, [[0, 1, 2], [0, 1, 2]])
        self.check(TWO_RINGS, [[2, 0, 1], [1, 0, 2]])
        self.check(TWO_ALIKE, [[0, 1], [0]])

    def test_great_hues(self):
        self.check(ONE_TIE, [[199]])
        self.check(STAR, [[0], [199], [0], [3]])
        self.check(TWO_RINGS, [[0, 1, 199], [5, 6, 7]])
        self.check(PATH, [[7], [7], [7]])
        self.check(MINGLED, [[9, 8, 7], [0, 1, 2], [50]])

    def test_no_more_hues_than_the_greatest_count(self):
        # Each block hued with no more than its own count: all of them meet at one place.
        for thick in (1, 2, 3):
            web = (10, tuple([(0, k) for k in range(1, 10)] * thick))
            self.assertLess(max(self.check(web, [list(range(thick))] * 9)), 9 * thick)
        web = (9, tuple([tie for k in range(0, 8, 2) for tie in ((0, k + 1), (k + 1, k + 2), (0, k + 2))]))
        self.assertLess(max(self.check(web, [[0, 1, 2]] * 4)), 8)

    def test_joined_webs(self):
        for seed, web in enumerate(joined_webs()):
            for extra in (0, 1, 3):
                self.check(web, self.hueings(web, seed, extra))

    def test_other_webs(self):
        for seed, web in enumerate(NAMED + SIDED + UNSIDED + list(greater_webs())):
            self.look(web, self.hueings(web, seed, 0), glued(web, self.hueings(web, seed, 0)))

    def test_small_webs(self):
        for web in small_webs(4, 3):
            rows = [[list(row) for row in itertools.product(range(3), repeat=len(block))
                     if is_good(some_of(web, block), list(row))] for block in blocks_of(web)]
            for hueings in itertools.product(*rows):
                self.look(web, hueings, glued(web, list(hueings)))


class ByBlocks(Asking):

    def check(self, web):
        answer = self.ask(by_blocks, web)
        self.assertIs(type(answer), tuple)
        self.assertIs(type(answer[1]), list)
        self.assertTrue(is_by_blocks(web, answer), (web, answer))
        self.assertTrue(self.truth(shows_blocks, web, answer))
        return answer

    def test_known_numbers(self):
        for web, number in [(ONE_TIE, 1), (PATH, 2), (STAR, 4), (TRIANGLE, 3), (SQUARE, 2), (FIVE, 3), (ALIKE, 3),
                            (TWO_ALIKE, 3), (MINGLED, 3), (PETERSEN, 4), (complete(4), 3), (complete(5), 5),
                            (TWO_RINGS, 4), (thick_ring(3, 3), 9), ((8, ((0, 1),) * 4 + ((2, 3), (2, 3))), 4)]:
            self.assertEqual(self.check(web)[0], number, web)

    def test_no_ties(self):
        for web in (NOTHING, LONE, APART, (30, ())):
            self.assertEqual(self.ask(by_blocks, web), (0, [], None))

    def test_papers(self):
        self.assertEqual(self.check(ONE_TIE)[2][0], "place")
        self.assertEqual(self.check(STAR)[2], ("place", 0))
        self.assertEqual(self.check(TWO_RINGS)[2], ("place", 2))
        # A block takes more hues than any place has ties, be it the first one or a later one.
        web = (9, ((0, 1), (1, 2), (2, 3)) + tuple([(a + 3, b + 3) for a, b in TRIANGLE[1]]))
        self.assertEqual(self.check(web)[2], ("place", 3))
        web = (9, ((0, 1), (1, 2)) + tuple([(a + 3, b + 3) for a, b in FIVE[1]]))
        self.assertEqual(self.check(web)[2], ("block", 2, ("set", (3, 4, 5, 6, 7))))
        web = (30, PETERSEN[1] + ((10, 11), (11, 12), (13, 14)))
        number, hueing, paper = self.check(web)
        self.assertEqual((number, paper[0], paper[1], paper[2][0]), (4, "block", 0, "tree"))
        web = (30, ((28, 29),) + PETERSEN[1])
        number, hueing, paper = self.check(web)
        self.assertEqual((number, paper[0], paper[1], paper[2][0]), (4, "block", 1, "tree"))

    def test_as_fewest(self):
        webs = NAMED + [chance_web(seed, 5 + seed % 8, 16) for seed in range(40)] + list(joined_webs())
        webs += [grown_web(seed, 16) for seed in range(40)] + [chance_web(seed, 12, 14) for seed in range(20)]
        count = 0
        for web in webs:
            if len(web[1]) <= 16 and len(set(ends_of(web))) <= 12:
                self.assertEqual(self.check(web)[0], fewest(web)[0], web)
                count += 1
        self.assertGreater(count, 50)

    def test_small_webs(self):
        for web in small_webs(4, 3):
            answer = by_blocks(web)
            self.assertTrue(is_by_blocks(web, answer), (web, answer))
            self.assertTrue(shows_blocks(web, answer))
            self.assertEqual(answer[0], fewest(web)[0])

    def test_great_webs_of_small_blocks(self):
        words = []
        for web in list(joined_webs()) + [grown_web(seed, 90) for seed in range(60, 90)]:
            if all(len(block) <= 16 and len(set(ends_of(some_of(web, block)))) <= 12 for block in blocks_of(web)):
                words.append(self.check(web)[2][0])
        self.assertGreater(words.count("place"), 20)
        # Seven blocks of twelve ties each: rings of three joined in a row, each of them with four ties on a side.
        web = (21, tuple([tie for k in range(0, 20, 3) for tie in ((k, k + 1), (k + 1, k + 2), (k, k + 2)) * 4
                          ] + [(k + 2, k + 3) for k in range(0, 18, 3)]))
        self.assertEqual(len(web[1]), 90)
        number, hueing, paper = self.check(web)
        self.assertEqual((number, paper[0]), (12, "block"))


class ShowsBlocks(Asking):

    def check(self, web, thing):
        expected = is_by_blocks(web, thing)
        self.assertIs(self.truth(shows_blocks, web, thing), expected, (web, thing))
        return expected

    def takes(self, web, thing):
        self.assertTrue(self.check(web, thing), (web, thing))

    def denies(self, web, thing):
        self.assertFalse(self.check(web, thing), (web, thing))

    def test_places(self):
        self.takes(ONE_TIE, (1, [0], ("place", 0)))
        self.takes(ONE_TIE, (1, (0,), ("place", 1)))
        self.takes(PATH, (2, [0, 1, 0], ("place", 1)))
        self.takes(PATH, (2, [1, 0, 1], ("place", 2)))
        self.takes(TWO_RINGS, (4, [0, 3, 1, 0, 1, 2], ("place", 2)))
        # A place with fewer ties, none at all, other hues.
        for thing in [(2, [0, 1, 0], ("place", 0)), (2, [0, 1, 0], ("place", 4)), (2, [0, 1, 0], ("place", -2)),
                      (2, [0, 1, 0], ("place", -3)), (3, [0, 1, 0], ("place", 1)), (1, [0, 1, 0], ("place", 1)),
                      (1, [0, 0, 0], ("place", 0)), (2, [0, 0, 1], ("place", 1)), (2, [0, 1, None], ("place", 1)),
                      (2, [0, 1], ("place", 1)), (2, [0, 2, 0], ("place", 1)), (3, [0, 2, 0], ("place", 1)),
                      (2, [0, 1, 0], ("place", True)), (True, [0, 1, 0], ("place", 0)), (2, [0, True, 0], ("place", 1)),
                      (2, [0, 1, 0], ["place", 1]), (2, [0, 1, 0], ("places", 1)), (2, [0, 1, 0], ("place", 1, 1)),
                      (2, [0, 1, 0], ("place",)), (2, [0, 1, 0], ("place", "1")), (2, [0, 1, 0], ("place", 10 ** 40)),
                      (2, [0, 1, 0], None), (0, [0, 1, 0], None), [2, [0, 1, 0], ("place", 1)], (2, [0, 1, 0]),
                      (2, [0, 1, 0], ("place", 1), None), ("2", [0, 1, 0], ("place", 1)), (2, "010", ("place", 1)),
                      (2, None, ("place", 1)), (2, [0, 1, -1], ("place", 1)), (-2, [0, 1, 0], ("place", 1)),
                      (10 ** 40, [0, 1, 0], ("place", 1)), (2, [0, 1, 0], ("set", 1)), (2, [0, 1, 0], ("tree", 1))]:
            self.denies(PATH, thing)
        self.denies(ONE_TIE, (True, [0], ("place", 0)))
        self.denies(ONE_TIE, (1, [False], ("place", 0)))

    def test_nothing(self):
        for web in (NOTHING, LONE, APART):
            self.takes(web, (0, [], None))
            self.takes(web, (0, (), None))
            for thing in [(0, [], ("place", 0)), (1, [], None), (-1, [], None), (False, [], None), (0, [0], None),
                          (1, [], ("place", 0)), (0, [], ("block", 0, None)), (1, [], ("block", 0, ("place", 0))),
                          (0, [], ()), (0, [], False), (0, None, None), [0, [], None], (0, [])]:
                self.denies(web, thing)
        self.denies(ONE_TIE, (1, [0], None))
        self.denies(ONE_TIE, (0, [0], None))
        self.denies(ONE_TIE, (0, [], None))

    def test_blocks(self):
        # A triangle with a tie at each of two places: the block of the triangle is the second one.
        web = (6, ((3, 4), (0, 1), (1, 2), (0, 2), (4, 5)))
        right = (3, [0, 0, 1, 2, 1], ("block", 1, ("set", (0, 1, 2))))
        self.takes(web, right)
        tree = ("tree", (0, ((1, ((2, ()),)),)))
        self.takes(web, right[:2] + (("block", 1, tree),))
        # A tree of the whole web's numbers is one of another web.
        self.denies(web, right[:2] + (("block", 1, ("tree", (1, ((2, ((3, ()),)),)))),))
        for paper in [("block", 0, ("set", (0, 1, 2))), ("block", 2, ("set", (0, 1, 2))), ("block", 3, ("set", (0, 1, 2))),
                      ("block", -2, ("set", (0, 1, 2))), ("block", True, ("set", (0, 1, 2))), ("block", 1, ("set", [0, 1, 2])),
                      ("block", 1, ["set", (0, 1, 2)]), ["block", 1, ("set", (0, 1, 2))], ("block", 1), ("block", 1, None),
                      ("block", 1, ("set", (0, 1, 3))), ("block", 1, ("set", (0, 1))), ("block", 1, ("place", 0)),
                      ("blocks", 1, ("set", (0, 1, 2))), ("block", 1, ("set", (0, 1, 2)), 0), ("set", (0, 1, 2)), tree,
                      ("block", 10 ** 40, ("set", (0, 1, 2))), ("block", None, ("set", (0, 1, 2))), ("block", "1", tree),
                      ("block", 0, tree), ("place", 0), ("place", 1, 1), ("block", (1, tree))]:
            self.denies(web, right[:2] + (paper,))
        self.denies(web, (4,) + right[1:])
        self.denies(web, (2,) + right[1:])
        self.takes(web, (3, [2, 2, 1, 0, 1], right[2]))
        self.denies(web, (3, [2, 2, 1, 2, 1], right[2]))
        self.denies(web, (3, [2, 2, 1, 3, 1], right[2]))

    def test_a_block_s_place(self):
        # A place of a block counts its ties of the block alone.
        self.takes(STAR, (4, [0, 1, 2, 3], ("place", 0)))
        for at in range(4):
            self.denies(STAR, (4, [0, 1, 2, 3], ("block", at, ("place", 0))))
        self.takes(ONE_TIE, (1, [0], ("block", 0, ("place", 0))))
        self.takes(ALIKE, (3, [0, 1, 2], ("block", 0, ("place", 1))))
        self.denies(TWO_ALIKE, (3, [0, 1, 2], ("block", 0, ("place", 1))))
        self.takes(TWO_ALIKE, (3, [0, 1, 2], ("place", 1)))

    def test_whatever_is_taken_is_so(self):
        for web in small_webs(3, 3):
            least = fewest(web)[0]
            papers = [None] + [("place", place) for place in range(3)]
            papers += [("block", k, paper) for k in range(3) for paper in
                       [("place", 0), ("place", 1), ("set", (0, 1, 2)), ("tree", (0, ())), ("tree", (0, ((1, ()),))),
                        ("tree", (0, ((1, ((2, ()),)),)))]]
            for number in range(5):
                for hueing in itertools.product(range(3), repeat=len(web[1])):
                    for paper in papers:
                        if shows_blocks(web, (number, hueing, paper)):
                            self.assertEqual(number, least, (web, hueing, paper))
                            self.assertTrue(is_by_blocks(web, (number, hueing, paper)))

    def test_one_thing_otherwise(self):
        web = (6, ((3, 4), (0, 1), (1, 2), (0, 2), (4, 5)))
        for web, thing in [(PATH, (2, [0, 1, 0], ("place", 1))), (NOTHING, (0, [], None)),
                           (web, (3, [0, 0, 1, 2, 1], ("block", 1, ("set", (0, 1, 2))))),
                           (web, (3, (0, 0, 1, 2, 1), ("block", 1, ("tree", (0, ((1, ((2, ()),)),))))))]:
            self.takes(web, thing)
            for other in variants(thing):
                self.check(web, other)

    def test_odd_things(self):
        for web in NAMED + [TWO_RINGS]:
            whole = hueing_of(web, 1)
            number = max(whole, default=-1) + 1
            for thing in ODD_THINGS:
                for other in [thing, (thing, whole, ("place", 0)), (number, thing, ("place", 0)), (number, whole, thing),
                              (number, whole, ("place", thing)), (number, whole, ("block", thing, ("place", 0))),
                              (number, whole, ("block", 0, thing)), (number, whole, ("block", 0, ("set", thing))),
                              (number, whole, ("block", 0, ("tree", thing)))]:
                    self.check(web, other)


if __name__ == "__main__":
    unittest.main()
