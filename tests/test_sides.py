"""[4]: two sides, or an odd ring."""

import itertools
import unittest

from huedties.sides import shows_sides, two_sides

from samples import (ALIKE, APART, FIVE, LONE, MINGLED, NAMED, NOTHING, ODD_THINGS, ONE_TIE, PATH, PETERSEN, SQUARE,
                     TRIANGLE, Asking, complete, greater_webs, small_webs, thick_ring)


def are_right_sides(web, sides):
    """Whether these are sides, with 0 for each place that no lesser one can be reached from."""
    if any({sides[one], sides[other]} != {0, 1} for one, other in web[1]):
        return False
    for place in range(web[0]):
        reached = {place}
        for turn in range(web[0]):
            reached |= {end for tie in web[1] if reached & set(tie) for end in tie}
        if place == min(reached) and sides[place] != 0:
            return False
    return True


def right_sides(web):
    """All that may be told as sides, out of all rows of 0 and 1."""
    return [list(sides) for sides in itertools.product((0, 1), repeat=web[0]) if are_right_sides(web, sides)]


def is_ring(web, ties):
    """Whether these ties lead through as many unlike places and back, odd in number, three or more."""
    if len(ties) < 3 or len(ties) % 2 == 0 or any(tie not in range(len(web[1])) for tie in ties):
        return False
    for places in itertools.permutations(range(web[0]), len(ties)):
        ring = list(zip(places, places[1:] + places[:1]))
        if [tuple(sorted(pair)) for pair in ring] == [web[1][tie] for tie in ties]:
            return True
    return False


class TwoSides(Asking):

    def test_sides(self):
        self.assertEqual(self.ask(two_sides, NOTHING), ("sides", []))
        self.assertEqual(self.ask(two_sides, LONE), ("sides", [0]))
        self.assertEqual(self.ask(two_sides, APART), ("sides", [0, 0, 0, 0]))
        self.assertEqual(self.ask(two_sides, ONE_TIE), ("sides", [0, 1]))
        self.assertEqual(self.ask(two_sides, ALIKE), ("sides", [0, 1]))
        self.assertEqual(self.ask(two_sides, SQUARE), ("sides", [0, 1, 0, 1]))
        self.assertEqual(self.ask(two_sides, (5, ((1, 4), (3, 4), (0, 2)))), ("sides", [0, 0, 1, 0, 1]))
        self.assertEqual(self.ask(two_sides, thick_ring(6, 3)), ("sides", [0, 1, 0, 1, 0, 1]))

    def test_rings(self):
        for web in (TRIANGLE, FIVE, MINGLED, PETERSEN, complete(4), thick_ring(3, 2), thick_ring(5, 2)):
            word, ties = self.ask(two_sides, web)
            self.assertEqual(word, "ring")
            self.assertIs(type(ties), list)
            self.assertTrue(self.truth(shows_sides, web, (word, ties)))
        for web in (TRIANGLE, FIVE, MINGLED, complete(4), thick_ring(5, 2)):
            self.assertTrue(is_ring(web, two_sides(web)[1]))

    def test_a_ring_at_the_end_of_a_path(self):
        web = (8, ((0, 1), (1, 2), (2, 3), (3, 4), (4, 5), (5, 6), (3, 6), (6, 7), (2, 6)))
        word, ties = self.ask(two_sides, web)
        self.assertEqual(word, "ring")
        self.assertTrue(is_ring(web, ties))

    def test_small_webs(self):
        for web in itertools.chain(small_webs(4, 3), small_webs(3, 4)):
            word, row = two_sides(web)
            sides = right_sides(web)
            if sides:
                self.assertEqual((word, row), ("sides", sides[0]))
                self.assertEqual(len(sides), 1)
            else:
                self.assertEqual(word, "ring")
                self.assertTrue(is_ring(web, row))
            self.assertTrue(shows_sides(web, (word, row)))

    def test_greater_webs(self):
        for web in greater_webs():
            self.assertTrue(shows_sides(web, self.ask(two_sides, web)))


class ShowsSides(Asking):

    def test_lists_within_may_be_tuples(self):
        self.assertTrue(self.truth(shows_sides, PATH, ("sides", [0, 1, 0, 1])))
        self.assertTrue(self.truth(shows_sides, PATH, ("sides", (0, 1, 0, 1))))
        self.assertTrue(self.truth(shows_sides, TRIANGLE, ("ring", [0, 1, 2])))
        self.assertTrue(self.truth(shows_sides, TRIANGLE, ("ring", (0, 1, 2))))
        self.assertTrue(self.truth(shows_sides, NOTHING, ("sides", ())))

    def test_the_tuple_is_no_list(self):
        self.assertFalse(self.truth(shows_sides, PATH, ["sides", [0, 1, 0, 1]]))
        self.assertFalse(self.truth(shows_sides, TRIANGLE, ["ring", [0, 1, 2]]))
        self.assertFalse(self.truth(shows_sides, PATH, ("sides", [0, 1, 0, 1], None)))
        self.assertFalse(self.truth(shows_sides, PATH, ("sides",)))

    def test_the_very_sides(self):
        for row in ([1, 0, 1, 0], [0, 1, 0], [0, 1, 0, 1, 0], [0, 1, 1, 0], [0, 1, 0, 0], [0, 0, 1, 0], [0, 2, 0, 1],
                    [0, -1, 0, 1], [False, 1, 0, 1], [0, True, 0, 1], [0, 1, None, 1], ["0", 1, 0, 1], [[0], 1, 0, 1],
                    [0, 1, 0, 10 ** 40]):
            self.assertFalse(self.truth(shows_sides, PATH, ("sides", row)), row)
        self.assertFalse(self.truth(shows_sides, APART, ("sides", [0, 0, 1, 0])))
        self.assertFalse(self.truth(shows_sides, (4, ((0, 1), (2, 3))), ("sides", [0, 1, 1, 0])))
        self.assertFalse(self.truth(shows_sides, TRIANGLE, ("sides", [0, 1, 0])))

    def test_each_row_of_small_webs(self):
        for web in NAMED[:10] + list(small_webs(4, 2)):
            for length in range(max(web[0] - 1, 0), web[0] + 2):
                for row in itertools.product((0, 1), repeat=length):
                    expected = length == web[0] and are_right_sides(web, row)
                    self.assertIs(shows_sides(web, ("sides", list(row))), expected, (web, row))

    def test_a_ring_begun_anywhere_either_way(self):
        for many in (3, 5, 7):
            web = thick_ring(many, 1)
            ring = list(range(many))
            for turn in range(many):
                begun = ring[turn:] + ring[:turn]
                self.assertTrue(self.truth(shows_sides, web, ("ring", begun)))
                self.assertTrue(self.truth(shows_sides, web, ("ring", begun[::-1])))

    def test_each_row_of_ties(self):
        double = (4, TRIANGLE[1] + ((0, 2), (2, 3)))
        for web in (TRIANGLE, SQUARE, ALIKE, double, complete(4)):
            for length in range(5):
                for ties in itertools.product(range(-1, len(web[1]) + 1), repeat=length):
                    self.assertIs(shows_sides(web, ("ring", list(ties))), is_ring(web, ties), (web, ties))
        for web in (FIVE, complete(5)):
            for ties in itertools.permutations(range(len(web[1])), 5):
                if web == FIVE or ties[0] == 3:
                    self.assertIs(shows_sides(web, ("ring", ties)), is_ring(web, ties), (web, ties))

    def test_what_is_no_ring(self):
        bow = (5, ((0, 1), (1, 2), (0, 2), (2, 3), (3, 4), (2, 4)))
        self.assertTrue(self.truth(shows_sides, bow, ("ring", [3, 4, 5])))
        for ties in ([], [0], [0, 1], [0, 1, 2, 3], [0, 1, 3], [0, 1, 2, 0, 1, 2, 0, 1, 2], [0, 0, 0], [0, 0, 1],
                     [True, 0, 2], [0, 1, -4], [0, 1, 6], [0, 1, None], [0, 1, "2"], [0, 1, [2]], [0, 1, 10 ** 40]):
            self.assertFalse(self.truth(shows_sides, bow, ("ring", ties)), ties)
        # A walk of odd length through one place twice, and an even ring.
        joined = (6, ((0, 1), (1, 2), (0, 2), (2, 3), (3, 4), (4, 5), (2, 5)))
        self.assertFalse(self.truth(shows_sides, joined, ("ring", [0, 1, 3, 4, 5, 6, 2])))
        self.assertFalse(self.truth(shows_sides, joined, ("ring", [3, 4, 5, 6])))
        self.assertFalse(self.truth(shows_sides, PATH, ("ring", [0, 1, 2])))

    def test_other_words(self):
        for word in ("side", "rings", "", None, 0, True, [], ("sides",)):
            self.assertFalse(self.truth(shows_sides, PATH, (word, [0, 1, 0, 1])))
            self.assertFalse(self.truth(shows_sides, TRIANGLE, (word, [0, 1, 2])))
        self.assertFalse(self.truth(shows_sides, PATH, ("ring", [0, 1, 0, 1])))
        self.assertFalse(self.truth(shows_sides, TRIANGLE, ("sides", [0, 1, 2])))

    def test_odd_things(self):
        for web in NAMED:
            for thing in ODD_THINGS:
                expected = web == NOTHING and thing in [("sides", ()), ("sides", [])]
                self.assertIs(self.truth(shows_sides, web, thing), expected, (web, thing))


if __name__ == "__main__":
    unittest.main()
