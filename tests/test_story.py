"""[7]: steps."""

import itertools
import random
import unittest

from huedties.errors import NoStep
from huedties.story import done_step, played

from samples import (ALIKE, APART, NOTHING, ONE_TIE, PATH, SQUARE, STAR, TRIANGLE, Asking, behind, greater_webs,
                     narrow_hueing, small_webs, some_hueings)


class DoneStep(Asking):

    def let_by(self, web, hueing, step, expected):
        self.assertEqual(self.ask(done_step, web, hueing, step), expected)
        self.assertEqual(self.ask(played, web, hueing, [step]), [expected])

    def stopped(self, web, hueing, *steps):
        for step in steps:
            self.assertEqual(self.refused(NoStep, done_step, web, hueing, step).place, 0)
            self.assertEqual(self.refused(NoStep, played, web, hueing, [step]).place, 0)

    def test_hue(self):
        self.let_by(PATH, [None, None, None], ("hue", 1, 0), [None, 0, None])
        self.let_by(PATH, [0, None, 0], ("hue", 1, 7), [0, 7, 0])
        self.let_by(ONE_TIE, [None], ("hue", 0, 199), [199])
        self.stopped(PATH, [0, None, 1], ("hue", 0, 2), ("hue", 0, 0), ("hue", 1, 0), ("hue", 1, 1))
        self.stopped(PATH, [0, None, 1], ("hue", -2, 2), ("hue", 3, 2), ("hue", 10 ** 30, 2), ("hue", 1, -1),
                     ("hue", 1, None))
        self.stopped(NOTHING, [], ("hue", 0, 0))

    def test_drop(self):
        self.let_by(PATH, [0, 1, 0], ("drop", 1), [0, None, 0])
        self.let_by(ONE_TIE, [0], ("drop", 0), [None])
        self.stopped(PATH, [0, None, 0], ("drop", 1), ("drop", -1), ("drop", 3), ("drop", 10 ** 30))
        self.stopped(APART, [], ("drop", 0))

    def test_move(self):
        self.let_by(PATH, [0, None, None], ("move", 0, 1), [None, 0, None])
        self.let_by(STAR, [3, 1, None, None], ("move", 1, 3), [3, None, None, 1])
        self.let_by(ALIKE, [0, None, 2], ("move", 2, 1), [0, 2, None])
        self.let_by(TRIANGLE, [0, 1, None], ("move", 1, 2), [0, None, 1])
        # Not meeting; no hue to go; a hue already there; a tie to itself; a hue that is there beyond.
        self.stopped(PATH, [0, None, None], ("move", 0, 2), ("move", 1, 2), ("move", 0, 0), ("move", 1, 1))
        self.stopped(PATH, [0, 1, None], ("move", 0, 1), ("move", 1, 0))
        self.stopped(PATH, [0, None, 0], ("move", 0, 1), ("move", 2, 1))
        self.stopped(PATH, [0, None, None], ("move", 0, -2), ("move", 0, 3), ("move", -3, 1), ("move", 3, 1))

    def test_row(self):
        self.let_by(PATH, [0, 1, 0], ("row", 0, 0, 1), [1, 0, 1])
        self.let_by(PATH, [0, 1, 0], ("row", 3, 0, 1), [1, 0, 1])
        self.let_by(PATH, [0, 1, 2], ("row", 0, 0, 1), [1, 0, 2])
        self.let_by(PATH, [0, 1, 2], ("row", 1, 1, 5), [0, 5, 2])
        self.let_by(PATH, [0, 1, 2], ("row", 0, 1, 2), [0, 1, 2])
        self.let_by(APART, [], ("row", 3, 0, 1), [])
        self.stopped(PATH, [0, 1, 0], ("row", 0, 1, 0), ("row", 1, 0, 1), ("row", 0, 0, 0), ("row", 0, 4, 4))
        self.stopped(PATH, [0, 1, 0], ("row", -1, 0, 1), ("row", 4, 0, 1), ("row", 10 ** 30, 0, 1))
        self.stopped(SQUARE, [0, 1, 0, 1], ("row", 0, 0, 1), ("row", 2, 1, 0))
        self.stopped(PATH, [0, 1, 0], ("row", 0, 0, -1), ("row", 0, -1, 1), ("row", 0, 1, -1))

    def test_what_is_no_step(self):
        self.stopped(PATH, [0, None, 2], ("paint", 1, 1), ("hue", 1), ("hue", 1, 1, 1), ("drop", 0, 0), ("drop",),
                     ("move", 0), ("move", 0, 1, 1), ("row", 0, 0), ("row", 0, 0, 1, 1), (), ("",),
                     ("paint", 0, 1), ("paint", 1), ("paint", 0), ("paint", 0, 0, 1))
        with self.assertRaises(NoStep):
            done_step(PATH, [0, None, 2], ["hue", 1, 1])

    def test_each_step_of_small_webs(self):
        for web in small_webs(4, 2):
            for hueing in some_hueings(web, 2):
                ties = range(-1, len(hueing) + 1)
                steps = [("hue",) + pair for pair in itertools.product(ties, range(3))]
                steps += [("drop", tie) for tie in ties]
                steps += [("move",) + pair for pair in itertools.product(ties, ties)]
                steps += [("row",) + three for three in itertools.product(range(-1, web[0] + 1), range(2), range(3))]
                for step in steps:
                    new = behind(web, hueing, step)
                    if new is not None:
                        self.assertEqual(done_step(web, hueing, step), new)
                    else:
                        with self.assertRaises(NoStep) as caught:
                            done_step(web, hueing, step)
                        self.assertEqual(caught.exception.place, 0)


class Played(Asking):

    def test_no_steps(self):
        self.assertEqual(self.ask(played, PATH, [0, None, 0], []), [])
        self.assertEqual(self.ask(played, NOTHING, [], []), [])

    def test_one_behind_the_other(self):
        steps = [("hue", 0, 0), ("hue", 1, 1), ("row", 0, 0, 1), ("drop", 0), ("move", 1, 0), ("row", 3, 0, 1)]
        self.assertEqual(self.ask(played, PATH, [None, None, None], steps),
                         [[0, None, None], [0, 1, None], [1, 0, None], [None, 0, None], [0, None, None],
                          [0, None, None]])

    def test_the_first_that_is_not_let_by(self):
        steps = [("hue", 0, 0), ("hue", 2, 0), ("hue", 1, 0), ("hue", 5, 0)]
        self.assertEqual(self.refused(NoStep, played, PATH, [None, None, None], steps).place, 2)
        self.assertEqual(self.refused(NoStep, played, PATH, [None, None, 1], steps).place, 1)
        self.assertEqual(self.refused(NoStep, played, PATH, [3, None, None], steps).place, 0)
        self.assertEqual(self.refused(NoStep, played, PATH, [None] * 3, [("hue", 0, 0), ("hue", 0, 0)]).place, 1)

    def test_walks_by_chance(self):
        for seed, web in enumerate(greater_webs()):
            dice = random.Random(seed)
            start = now = narrow_hueing(web, 6, seed)
            steps, hueings = [], []
            while len(steps) < 12:
                tie, other = dice.randrange(len(now)), dice.randrange(len(now))
                step = dice.choice([("hue", tie, dice.randrange(6)), ("drop", tie), ("move", tie, other),
                                    ("row", dice.randrange(web[0]), dice.randrange(6), dice.randrange(6))])
                new = behind(web, now, step)
                if new is not None:
                    now = new
                    steps.append(step)
                    hueings.append(now)
            self.assertEqual(self.ask(played, web, start, steps), hueings)


if __name__ == "__main__":
    unittest.main()
