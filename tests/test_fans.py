"""[8] and [9]: fans, and hues for ties by turning them."""

import random
import unittest

from huedties.errors import NoFan, NoPlace, NoTie, TooFew
from huedties.fans import all_hued, fan_of, hued_in, turning
from huedties.story import played

from samples import (ALIKE, APART, FIVE, LONE, NAMED, NOTHING, ONE_TIE, PATH, PETERSEN, STAR, TRIANGLE, TWO_ALIKE,
                     Asking, behind, chance_web, complete, enough, greater_webs, is_good, narrow_hueing, small_webs,
                     some_hueings, thick_ring, walk)

WORDS = ("hue", "move", "row")


def free(web, row, place, hues):
    there = [row[tie] for tie, ends in enumerate(web[1]) if place in ends]
    return [hue for hue in range(hues) if hue not in there]


def other_end(web, tie, place):
    return sum(web[1][tie]) - place


def fan_by_words(web, row, tie, place, hues):
    fan = [(tie, None)]
    while True:
        there = [k for k, back in fan]
        pairs = [(k, back) for k in range(len(row)) if place in web[1][k] and k not in there
                 for back, own in enumerate(there)
                 if row[k] is not None and row[k] < hues and row[k] in free(web, row, other_end(web, own, place), hues)]
        if not pairs:
            return fan
        fan.append(min(pairs))


class FanOf(Asking):

    def test_a_star(self):
        # At 0 the ties 0 to 3; hues 0, 1, 2 at 1 to 3; beyond, ties of other hues.
        self.assertEqual(self.ask(fan_of, STAR, [None, 0, 1, 2], 0, 0, 5), [(0, None), (1, 0), (2, 0), (3, 0)])
        self.assertEqual(self.ask(fan_of, STAR, [None, 0, 1, 2], 0, 0, 2), [(0, None), (1, 0), (2, 0)])
        self.assertEqual(self.ask(fan_of, STAR, [None, 0, 1, 2], 0, 0, 0), [(0, None)])
        self.assertEqual(self.ask(fan_of, STAR, [None, 0, 1, 2], 0, 1, 5), [(0, None)])
        self.assertEqual(self.ask(fan_of, STAR, [0, None, None, 2], 2, 0, 3), [(2, None), (0, 0), (3, 0)])

    def test_backs(self):
        # Far ends: 1 has hues 0 and 1, so tie 3 alone fits behind tie 0; each next one opens another.
        web = (8, ((0, 1), (0, 2), (0, 3), (0, 4), (1, 5), (1, 6), (4, 7)))
        hueing = [None, 0, 1, 2, 0, 1, 1]
        self.assertEqual(self.ask(fan_of, web, hueing, 0, 0, 3), [(0, None), (3, 0), (1, 1), (2, 2)])

    def test_the_first_back(self):
        web = (5, ((0, 1), (0, 2), (0, 3), (1, 4)))
        # Hue 1 is free at the far end of tie 1 alone, hue 0 at that of tie 0.
        self.assertEqual(self.ask(fan_of, web, [None, 0, 1, 1], 0, 0, 3), [(0, None), (1, 0), (2, 1)])

    def test_the_least_tie_each_time(self):
        # Tie 1 fits behind tie 2 alone, but goes ahead of tie 3 once it does.
        web = (6, ((0, 1), (0, 2), (0, 3), (0, 4), (1, 5)))
        self.assertEqual(self.ask(fan_of, web, [None, 0, 1, 2, 0], 0, 0, 3), [(0, None), (2, 0), (1, 1), (3, 0)])

    def test_alike_ties(self):
        self.assertEqual(self.ask(fan_of, ALIKE, [0, None, 1], 1, 0, 6), [(1, None)])
        self.assertEqual(self.ask(fan_of, TWO_ALIKE, [0, 1, None], 2, 1, 5), [(2, None), (1, 0), (0, 1)])

    def test_refusals(self):
        hueing = [0, None, 0]
        for tie in (-1, 3, 10 ** 30):
            self.refused(NoTie, fan_of, PATH, hueing, tie, 0, 3)
            self.refused(NoTie, fan_of, PATH, hueing, tie, -1, 3)
        for place in (-1, 0, 3, 4, 10 ** 30):
            self.refused(NoPlace, fan_of, PATH, hueing, 1, place, 3)
        for place in (-1, 2, 3, 4):
            self.refused(NoPlace, fan_of, PATH, hueing, 0, place, 3)
        self.refused(NoFan, fan_of, PATH, hueing, 0, 0, 3)
        self.refused(NoFan, fan_of, PATH, hueing, 0, 1, 0)
        self.refused(NoFan, fan_of, PATH, hueing, 2, 3, 3)

    def check(self, web, hueing, hues):
        for tie in range(len(hueing)):
            if hueing[tie] is None:
                for place in web[1][tie]:
                    told = fan_of(web, hueing, tie, place, hues)
                    self.assertEqual(told, fan_by_words(web, hueing, tie, place, hues), (web, hueing, tie, place))

    def test_each_hueing_of_small_webs(self):
        for web in small_webs(4, 3):
            for hueing in some_hueings(web, 2):
                for hues in (1, 2, 3):
                    self.check(web, hueing, hues)

    def test_greater_webs(self):
        for web in list(greater_webs()) + [complete(7), thick_ring(5, 4)]:
            for fewer in (1, 2, 4):
                hues = max(enough(web) - fewer, 2)
                self.check(web, narrow_hueing(web, hues, fewer), hues)
                self.check(web, narrow_hueing(web, hues, fewer), hues - 1)


class Turning(Asking):

    def test_steps(self):
        fan = [(4, None), (7, 0), (2, 0), (9, 1), (5, 3)]
        self.assertEqual(self.ask(turning, fan, 0, 3), [("hue", 4, 3)])
        self.assertEqual(self.ask(turning, fan, 2, 3), [("move", 2, 4), ("hue", 2, 3)])
        self.assertEqual(self.ask(turning, fan, 4, 0),
                         [("move", 7, 4), ("move", 9, 7), ("move", 5, 9), ("hue", 5, 0)])
        self.assertEqual(turning([[4, None], [7, 0]], 1, 2), [("move", 7, 4), ("hue", 7, 2)])

    def test_all_are_let_by(self):
        turned = 0
        for web in list(greater_webs()) + [complete(7), thick_ring(5, 4), thick_ring(3, 5)]:
            hues = enough(web) - 1
            hueing = narrow_hueing(web, hues - 1, 5)
            for tie in [k for k in range(len(hueing)) if hueing[k] is None]:
                for place in web[1][tie]:
                    fan = fan_of(web, hueing, tie, place, hues)
                    for at, (last, back) in enumerate(fan):
                        far = other_end(web, last, place)
                        for hue in set(free(web, hueing, place, hues)) & set(free(web, hueing, far, hues)):
                            now = self.play(web, hueing, self.ask(turning, fan, at, hue), hues, ("move", "hue"))
                            self.assertEqual(now[last], hue)
                            self.assertEqual(now.count(None), hueing.count(None) - 1)
                            turned += back is not None
        self.assertGreater(turned, 50)


class HuedIn(Asking):

    def check(self, web, hueing, tie, hues, deed=hued_in):
        steps = deed(web, hueing, tie, hues)
        now = self.play(web, hueing, steps, hues, WORDS)
        hued = [k for k in range(len(now)) if now[k] is not None]
        self.assertEqual(hued, [k for k in range(len(now)) if hueing[k] is not None or k == tie])
        if steps:
            self.assertEqual(played(web, hueing, steps)[-1], now)
        return steps

    def asked(self, web, hueing, tie, hues):
        return self.ask(hued_in, web, hueing, tie, hues)

    def test_ordinary(self):
        self.check(PATH, [0, None, 1], 1, 3, self.asked)
        self.check(PATH, [None, None, None], 2, 3, self.asked)
        self.check(ONE_TIE, [None], 0, 2, self.asked)
        self.check(ALIKE, [5, None, 4], 1, 6, self.asked)
        self.check(FIVE, [0, 1, 0, 1, None], 4, 3, self.asked)
        self.check(STAR, [None, 3, None, 1], 2, 200, self.asked)

    def test_the_tie_has_a_hue(self):
        self.assertEqual(self.ask(hued_in, PATH, [0, None, 1], 0, 3), [])
        self.assertEqual(self.ask(hued_in, ALIKE, [0, 1, 5], 2, 6), [])

    def test_refusals(self):
        for tie in (-1, 3, 10 ** 30):
            self.refused(NoTie, hued_in, PATH, [0, None, 1], tie, 3)
            self.refused(NoTie, hued_in, PATH, [0, None, 1], tie, 0)
        self.refused(NoTie, hued_in, NOTHING, [], 0, 0)
        self.refused(TooFew, hued_in, PATH, [0, None, 1], 1, 2)
        self.refused(TooFew, hued_in, PATH, [0, None, 1], 0, 2)
        self.refused(TooFew, hued_in, PATH, [None, None, None], 0, 0)
        self.refused(TooFew, hued_in, ALIKE, [0, 1, None], 2, 5)
        self.refused(TooFew, hued_in, TWO_ALIKE, [0, 1, None], 2, 4)

    def test_each_hueing_of_small_webs(self):
        for web in small_webs(3, 3):
            for hueing in some_hueings(web, min(enough(web), 4)):
                for tie in range(len(hueing)):
                    self.check(web, hueing, tie, enough(web))

    def test_just_enough_hues(self):
        webs = list(greater_webs()) + [complete(k) for k in range(2, 10)]
        webs += [thick_ring(many, thick) for many in (3, 4, 5, 7) for thick in (1, 2, 3, 5)]
        webs += [chance_web(seed, 7, 16, 9) for seed in range(30, 60)]
        rows = moves = 0
        for web in webs:
            hues = enough(web)
            # A hueing by chance often leaves no hue for some ties, so that it must be changed for them.
            for seed in range(4):
                hueing = narrow_hueing(web, hues, seed)
                for tie in [k for k in range(len(hueing)) if hueing[k] is None]:
                    steps = self.check(web, hueing, tie, hues)
                    rows += any(step[0] == "row" for step in steps)
                    moves += any(step[0] == "move" for step in steps)
        self.assertGreater(rows, 5)
        self.assertGreater(moves, 20)

    def test_tight_hueings(self):
        # Greedy hueings of thinned webs, stretched to just enough hues, tie by tie until all have hues.
        rows = 0
        for seed in range(40):
            web = chance_web(seed, 9, 30) if seed % 2 else complete(6 + seed % 3)
            hues = enough(web)
            now = narrow_hueing(web, hues, seed)
            while None in now:
                steps = self.check(web, now, now.index(None), hues)
                rows += any(step[0] == "row" for step in steps)
                now = self.play(web, now, steps, hues, WORDS)
            self.assertTrue(is_good(web, now))
        self.assertGreater(rows, 5)

    def test_one_tie_without_a_hue(self):
        # Of a whole hueing one tie is dropped and rows are exchanged by chance: so the hues that are free at
        # the ends of a fan are often alike, and the row that helps comes to the tie's place, or doesn't.
        clear = touching = 0
        for seed, web in enumerate([thick_ring(3, 3), thick_ring(5, 3), complete(7), PETERSEN, complete(5)] * 30):
            dice = random.Random(seed)
            hues = enough(web)
            now = all_hued(web, hues)[0]
            tie = dice.randrange(len(now))
            now[tie] = None
            for turn in range(20):
                one, other = dice.sample(range(hues), 2)
                now = behind(web, now, ("row", dice.randrange(web[0]), one, other)) or now
            steps = self.check(web, now, tie, hues)
            for step in steps:
                if step[0] == "row":
                    near = any(web[1][tie][0] in web[1][k] for k in walk(web, now, *step[1:]))
                    touching += near
                    clear += not near
        self.assertGreater(clear, 0)
        self.assertGreater(touching, 0)

    def test_the_askers_own(self):
        for web in list(greater_webs())[:10]:
            hues = enough(web)
            hueing = narrow_hueing(web, hues, 1)
            hueing[3] = None
            self.check(web, hueing, 3, hues, self.asked)


class AllHued(Asking):

    def check(self, web, hues):
        hueing, steps = self.ask(all_hued, web, hues)
        self.assertEqual(self.play(web, [None] * len(web[1]), steps, hues, WORDS), hueing)
        self.assertTrue(is_good(web, hueing))
        self.assertNotIn(None, hueing)
        self.assertTrue(all(hue < hues for hue in hueing))
        if steps:
            self.assertEqual(played(web, [None] * len(web[1]), steps)[-1], hueing)

    def test_just_enough_hues(self):
        webs = NAMED + list(greater_webs()) + [complete(k) for k in range(2, 14)] + [PETERSEN, TRIANGLE]
        webs += [chance_web(seed, 8, 24) for seed in range(20)]
        for web in webs:
            self.check(web, enough(web))

    def test_thick_webs(self):
        # Three places with alike ties between all of them need all these hues.
        for thick in (1, 2, 5, 10, 30):
            self.check(thick_ring(3, thick), 3 * thick)
        for web in (thick_ring(5, 9), thick_ring(4, 20), (2, ((0, 1),) * 90), chance_web(3, 4, 90, 5)):
            self.check(web, enough(web))

    def test_more_hues(self):
        for web in (PATH, STAR, ALIKE, FIVE, complete(6)):
            self.check(web, enough(web) + 1)
            self.check(web, 200)

    def test_no_ties(self):
        for web in (NOTHING, LONE, APART):
            self.assertEqual(self.ask(all_hued, web, 0), ([], []))
            self.assertEqual(self.ask(all_hued, web, 5), ([], []))

    def test_refusals(self):
        for web in (ONE_TIE, PATH, STAR, ALIKE, TWO_ALIKE, PETERSEN, complete(5), thick_ring(3, 3)):
            self.refused(TooFew, all_hued, web, enough(web) - 1)
            self.refused(TooFew, all_hued, web, 0)

    def test_small_webs(self):
        for web in small_webs(4, 3):
            hueing, steps = all_hued(web, enough(web))
            self.assertEqual(self.play(web, [None] * len(web[1]), steps, enough(web), WORDS), hueing)
            self.assertNotIn(None, hueing)


if __name__ == "__main__":
    unittest.main()
