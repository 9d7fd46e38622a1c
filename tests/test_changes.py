"""[19]: whole hueings with as few changes as can be."""

import random
import unittest

from huedties.changecheck import shows_changed
from huedties.changes import least_changed

from samples import (ALIKE, APART, FIVE, LONE, MINGLED, NOTHING, ONE_TIE, PATH, SQUARE, STAR, TRIANGLE, Asking, chance_web,
                     complete, fewest_changes, hueing_of, is_changed, narrow_hueing, sided_web, small_webs, some_hueings,
                     thick_ring)


class LeastChanged(Asking):

    def right(self, web, hueing, hues, answer):
        """Looks at what is told, and tells the number of changes, or None where there is no whole hueing."""
        self.assertIs(type(answer), tuple)
        self.assertTrue(is_changed(web, hueing, hues, answer), (web, hueing, hues, answer))
        number = fewest_changes(web, hueing, hues)
        if number is None:
            self.assertEqual(answer[0], "none")
        else:
            self.assertEqual(answer[:2], ("least", number), (web, hueing, hues))
            self.assertIs(type(answer[2]), list)
        return number

    def check(self, web, hueing, hues):
        answer = self.ask(least_changed, web, hueing, hues)
        self.assertTrue(self.truth(shows_changed, web, hueing, hues, answer))
        return self.right(web, hueing, hues, answer)

    def test_ordinary(self):
        self.assertEqual(self.check(PATH, [0, None, 1], 2), 1)
        self.assertEqual(self.check(PATH, [0, None, 1], 3), 0)
        self.assertEqual(self.check(PATH, [0, 1, 2], 2), 1)
        self.assertEqual(self.check(PATH, [2, 1, 2], 2), 2)
        self.assertEqual(self.check(SQUARE, [0, 1, 2, 1], 2), 1)
        self.assertEqual(self.check(SQUARE, [0, 2, 1, 3], 2), 3)
        self.assertEqual(self.check(TRIANGLE, [0, 1, None], 2), None)
        self.assertEqual(self.check(TRIANGLE, [0, 1, 9], 3), 1)
        self.assertEqual(self.check(FIVE, [0, 1, 0, 1, None], 3), 0)
        self.assertEqual(self.check(FIVE, [0, 1, 0, 1, None], 2), None)
        self.assertEqual(self.check(STAR, [7, None, 0, 3], 4), 1)
        self.assertEqual(self.check(complete(4), [0, None, None, None, None, 1], 3), 1)

    def test_nothing_to_change(self):
        self.assertEqual(self.ask(least_changed, SQUARE, [0, 1, 0, 1], 2), ("least", 0, [0, 1, 0, 1], ("dear",)))
        self.assertEqual(self.ask(least_changed, PATH, [0, None, 0], 2), ("least", 0, [0, 1, 0], ("dear",)))
        self.assertEqual(self.check(PATH, [None] * 3, 2), 0)
        self.assertEqual(self.check(ALIKE, [4, None, 2], 5), 0)

    def test_no_ties(self):
        for web in (NOTHING, LONE, APART):
            for hues in (0, 1, 5):
                self.assertEqual(self.ask(least_changed, web, [], hues), ("least", 0, [], ("dear",)))

    def test_no_hues(self):
        self.assertEqual(self.ask(least_changed, ONE_TIE, [None], 0), ("none", ("try", 0, ())))
        self.assertEqual(self.ask(least_changed, ONE_TIE, [5], 0), ("none", ("try", 0, ())))
        self.assertEqual(self.check(STAR, [0, 1, 2, 3], 0), None)

    def test_hues_that_are_not_below_hues(self):
        self.assertEqual(self.check(ONE_TIE, [199], 1), 1)
        self.assertEqual(self.check(PATH, [7, 8, 199], 2), 3)
        self.assertEqual(self.check(PATH, [2, 1, 0], 2), 1)
        self.assertEqual(self.check(STAR, [5, 6, 7, 8], 5), 4)
        self.assertEqual(self.check(STAR, [4, 5, None, 0], 4), 2)

    def test_no_whole_hueing(self):
        for web, hues in [(STAR, 3), (TRIANGLE, 2), (FIVE, 2), (ALIKE, 2), (complete(4), 2), (thick_ring(3, 2), 5),
                          (thick_ring(3, 3), 5), ((2, ((0, 1),) * 9), 5), (MINGLED, 2)]:
            self.assertEqual(self.check(web, [None] * len(web[1]), hues), None)
            self.assertEqual(self.check(web, hueing_of(web, 1), hues), None)
            self.assertEqual(self.check(web, hueing_of(web, 2, gaps=5), hues), None)

    def test_several_parts(self):
        # Three paths, each with one change; then with a fourth part that takes none.
        paths = (12, tuple([(a + 4 * k, b + 4 * k) for k in range(3) for a, b in PATH[1]]))
        self.assertEqual(self.check(paths, [0, None, 1] * 3, 2), 3)
        self.assertEqual(self.check(paths, [0, None, 1, 0, 1, 0, 1, None, 0], 2), 2)
        self.assertEqual(self.check(MINGLED, [0, 0, 1, 1, 3, None, 2], 3), 2)

    def test_a_change_of_many(self):
        # Two hues around a ring of eight: all of one or all of the other kind change.
        ring = thick_ring(8, 1)
        self.assertEqual(self.check(ring, [0, 1, 0, 1, None, 0, 1, None], 2), 2)
        self.assertEqual(self.check(ring, [0, 1, 0, None, 0, 1, 0, None], 3), 0)
        self.assertEqual(self.check(ring, [0, None, None, 0, None, None, None, None], 2), 1)
        self.assertEqual(self.check(ring, [2, 1, 2, 1, 2, 0, 2, 0], 2), 6)

    def test_each_hueing_of_small_webs(self):
        numbers = []
        for web in small_webs(4, 3):
            if len(set(web[1])) == len(web[1]) or web[0] == 3:
                for hueing in some_hueings(web, 3):
                    for hues in range(4):
                        answer = least_changed(web, hueing, hues)
                        self.assertTrue(shows_changed(web, hueing, hues, answer))
                        numbers.append(self.right(web, hueing, hues, answer))
        for number in (None, 0, 1, 2):
            self.assertGreater(numbers.count(number), 100, number)

    def test_webs_by_chance(self):
        numbers = []
        for seed in range(250):
            dice = random.Random(seed)
            hues = dice.choice((2, 3, 4, 5))
            many, count = dice.randrange(4, 13), dice.randrange(5, 10)
            web = sided_web(seed, 3, 4, count) if seed % 2 else chance_web(seed, many, count)
            hueing = narrow_hueing(web, hues + dice.choice((0, 0, 1, 2)), seed)
            hueing = [hue if dice.randrange(10) < 8 else None for hue in hueing]
            numbers.append(self.check(web, hueing, hues))
        for number in (None, 0, 1, 2, 3):
            self.assertGreater(numbers.count(number), 5, number)

    def test_webs_at_the_bounds(self):
        numbers = []
        for seed in range(120):
            web = sided_web(seed, 3, 3 + seed % 7, 9) if seed % 2 else chance_web(seed, 5 + seed % 8, 9)
            hues = 4 + seed % 2
            answer = least_changed(web, narrow_hueing(web, hues, seed), hues)
            numbers.append(self.right(web, narrow_hueing(web, hues, seed), hues, answer))
            self.assertTrue(shows_changed(web, narrow_hueing(web, hues, seed), hues, answer))
        self.assertGreater(len([number for number in numbers if number]), 3)
        # Places without ties aren't counted.
        self.assertEqual(self.check((30, ((5, 17), (17, 28), (28, 29))), [0, None, 1], 2), 1)


if __name__ == "__main__":
    unittest.main()
