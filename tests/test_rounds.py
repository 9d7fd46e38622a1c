"""[20]: rounds of meetings."""

import itertools
import unittest

from huedties.rounds import hosts, plan, robin, shows_plan

from samples import (ALIKE, APART, FIVE, LONE, NAMED, NOTHING, ODD_THINGS, ONE_TIE, PATH, SIDED, SQUARE,
                     STAR, TRIANGLE, UNSIDED, Asking, chance_web, complete, ends_of, enough, full_sides, greater_webs, meet,
                     nested, small_sided_webs, small_webs, thick_ring, variants)


def most(web):
    return max([ends_of(web).count(place) for place in ends_of(web)], default=0)


def is_plan(web, room, thing):
    """Whether anything is a plan of such rounds, by the words of the document."""
    if type(thing) not in (list, tuple) or any(type(row) not in (list, tuple) for row in thing):
        return False
    ties = [tie for row in thing for tie in row]
    if any(type(tie) is not int for tie in ties) or sorted(ties) != list(range(len(web[1]))):
        return False
    for row in thing:
        if list(row) != sorted(row) or len(row) == 0 or len(row) > room:
            return False
        if any(meet(web, one, other) for one, other in itertools.combinations(row, 2)):
            return False
    return True


class Plan(Asking):

    def check(self, web, room):
        rounds = self.ask(plan, web, room)
        self.assertTrue(is_plan(web, room, rounds), (web, room, rounds))
        self.assertTrue(all(type(row) is list for row in [rounds] + rounds))
        self.assertTrue(self.truth(shows_plan, web, room, rounds))
        return len(rounds)

    def test_two_sides_take_as_few_as_can_be(self):
        for web in SIDED:
            for room in (1, 2, 3, 4, 7, 15, 89, 90, 91, 100):
                least = max(most(web), -(-len(web[1]) // room))
                self.assertEqual(self.check(web, room), least, (web, room))

    def test_small_webs_of_two_sides(self):
        for web in small_sided_webs():
            for room in (1, 2, 3, 4):
                rounds = plan(web, room)
                self.assertTrue(is_plan(web, room, rounds), (web, room, rounds))
                self.assertTrue(shows_plan(web, room, rounds))
                self.assertEqual(len(rounds), max(most(web), -(-len(web[1]) // room)), (web, room))

    def test_other_webs(self):
        for web in UNSIDED + [complete(5), complete(9), (4, ((0, 1),) * 7 + ((1, 2), (0, 2)))]:
            for room in (1, 2, 3, 4, 7, 15, 90, 100):
                self.assertLessEqual(self.check(web, room), max(enough(web), -(-len(web[1]) // room)), (web, room))

    def test_small_webs(self):
        for web in itertools.chain(small_webs(4, 3), small_webs(3, 5)):
            for room in (1, 2, 3):
                rounds = plan(web, room)
                self.assertTrue(is_plan(web, room, rounds), (web, room, rounds))
                self.assertLessEqual(len(rounds), max(enough(web), -(-len(web[1]) // room)))

    def test_room_of_one(self):
        for web in NAMED + [chance_web(3, 30, 90)]:
            self.assertEqual(self.check(web, 1), len(web[1]))

    def test_no_ties(self):
        for web in (NOTHING, LONE, APART, (30, ())):
            for room in (1, 2, 100):
                self.assertEqual(self.ask(plan, web, room), [])

    def test_known(self):
        self.assertEqual(self.ask(plan, ONE_TIE, 1), [[0]])
        self.assertEqual(sorted(self.ask(plan, SQUARE, 2)), [[0, 2], [1, 3]])
        self.assertEqual(self.check(PATH, 1), 3)
        self.assertEqual(self.check(PATH, 2), 2)
        # Both of the middle, though there is room for all ties of one hue.
        self.assertEqual(self.check(full_sides(4, 4), 4), 4)
        self.assertEqual(self.check(full_sides(4, 4), 3), 6)


class ShowsPlan(Asking):

    def check(self, web, room, thing):
        expected = is_plan(web, room, thing)
        self.assertIs(self.truth(shows_plan, web, room, thing), expected, (web, room, thing))
        return expected

    def takes(self, web, room, thing):
        self.assertTrue(self.check(web, room, thing), (web, room, thing))

    def denies(self, web, room, thing):
        self.assertFalse(self.check(web, room, thing), (web, room, thing))

    def test_plans(self):
        for thing in ([[0, 2], [1, 3]], [[1, 3], [0, 2]], [[3], [2], [1], [0]], [[0], [1, 3], [2]], ((0, 2), (1, 3)),
                      [(0, 2), [1, 3]], ([0, 2], [1, 3])):
            self.takes(SQUARE, 2, thing)
            self.takes(SQUARE, 100, thing)
        self.takes(SQUARE, 1, [[3], [2], [1], [0]])
        self.takes(ALIKE, 1, ((1,), (0,), (2,)))
        self.takes(NOTHING, 1, [])
        self.takes(APART, 5, ())

    def test_what_is_none(self):
        for thing in ([[0, 2], [1]], [[0, 2]], [], [[0, 2], [1, 3], [1]], [[0, 2], [1, 3], [1, 3]], [[0, 2], [1, 3], []],
                      [[], [0, 2], [1, 3]], [[2, 0], [1, 3]], [[0, 0, 2], [1, 3]], [[0, 1], [2, 3]], [[0, 3], [1, 2]],
                      [[0, 2], [1, 4]], [[0, 2], [-1, 1]], [[0, 2], [1, 3, 4]], [[0, 2], [1, 3], [4]], [[0, 2], [1, 3], None],
                      [[0, 2], [True, 3]], [[False, 2], [1, 3]], [[0, 2], "13"], [[0, 2], 1, 3], [0, 1, 2, 3], "0213",
                      [[[0], 2], [1, 3]], [[0, 2], [1, None]], [[[0, 2], [1, 3]]], [[0, 2], [1, 10 ** 40]], {0: [0, 2]}):
            self.denies(SQUARE, 2, thing)
            self.denies(SQUARE, 90, thing)

    def test_room(self):
        self.denies(SQUARE, 1, [[0, 2], [1, 3]])
        self.denies(SQUARE, 1, [[0], [1, 3], [2]])
        apart = (8, ((0, 1), (2, 3), (4, 5), (6, 7)))
        self.takes(apart, 4, [[0, 1, 2, 3]])
        self.denies(apart, 3, [[0, 1, 2, 3]])
        self.takes(apart, 3, [[0, 1, 2], [3]])

    def test_no_ties(self):
        for web in (NOTHING, LONE, APART):
            for thing in ([[]], [[0]], [()], [None], None, 0, "", ((),), False):
                self.denies(web, 1, thing)

    def test_one_thing_otherwise(self):
        for web, room, thing in [(SQUARE, 2, [[0, 2], [1, 3]]), (PATH, 2, ([1], (0, 2))), (ONE_TIE, 1, [[0]]),
                                 (NOTHING, 3, []), (TRIANGLE, 1, [[2], [0], [1]])]:
            self.takes(web, room, thing)
            for other in variants(thing):
                self.check(web, room, other)

    def test_odd_things(self):
        for web in NAMED:
            for thing in ODD_THINGS + [[nested(38)], [[nested(37)]]]:
                for room in (1, 100):
                    self.check(web, room, thing)
                    self.check(web, room, [thing])
                    self.check(web, room, [[0], thing])


class Robin(Asking):

    def test_all_numbers(self):
        for many in range(61):
            rounds = self.ask(robin, many)
            self.assertEqual(len(rounds), 0 if many < 2 else many - 1 if many % 2 == 0 else many)
            pairs = [pair for row in rounds for pair in row]
            self.assertEqual(sorted(pairs), list(itertools.combinations(range(many), 2)))
            for row in rounds:
                self.assertIs(type(row), list)
                self.assertEqual(row, sorted(row))
                self.assertTrue(all(type(pair) is tuple for pair in row))
                persons = [person for pair in row for person in pair]
                self.assertEqual(len(set(persons)), len(persons))

    def test_few(self):
        self.assertEqual(self.ask(robin, 0), [])
        self.assertEqual(self.ask(robin, 1), [])
        self.assertEqual(self.ask(robin, 2), [[(0, 1)]])
        self.assertEqual(sorted(self.ask(robin, 3)), [[(0, 1)], [(0, 2)], [(1, 2)]])
        self.assertEqual(sorted(self.ask(robin, 4)), [[(0, 1), (2, 3)], [(0, 2), (1, 3)], [(0, 3), (1, 2)]])

    def test_goes_with_shows_plan(self):
        for many in range(2, 10):
            web = complete(many)
            rounds = [[web[1].index(pair) for pair in row] for row in robin(many)]
            self.assertTrue(shows_plan(web, many // 2, rounds))


class Hosts(Asking):

    def check(self, web):
        told = self.ask(hosts, web)
        self.assertIs(type(told), list)
        self.assertEqual(len(told), len(web[1]))
        self.assertTrue(all(type(host) is int and host in ends for host, ends in zip(told, web[1])))
        for place in range(web[0]):
            own = [host == place for host, ends in zip(told, web[1]) if place in ends]
            self.assertLessEqual(abs(own.count(True) - own.count(False)), 1, (web, place, told))

    def test_webs(self):
        for web in NAMED + SIDED + UNSIDED + list(greater_webs()) + [complete(9), complete(10), thick_ring(3, 7)]:
            self.check(web)

    def test_small_webs(self):
        for web in itertools.chain(small_webs(4, 3), small_webs(3, 5)):
            told = hosts(web)
            for place in range(web[0]):
                here = len([host for host in told if host == place])
                self.assertLessEqual(abs(2 * here - ends_of(web).count(place)), 1)
                self.assertTrue(all(host in ends for host, ends in zip(told, web[1])))

    def test_no_ties(self):
        for web in (NOTHING, LONE, APART):
            self.assertEqual(self.ask(hosts, web), [])

    def test_many_webs_by_chance(self):
        for seed in range(60):
            self.check(chance_web(seed, 2 + seed % 29, seed + 31))
            self.check(chance_web(seed, 4 + seed % 8, seed + 31, 5))

    def test_known(self):
        self.assertIn(self.ask(hosts, ONE_TIE), ([0], [1]))
        self.assertIn(self.ask(hosts, TRIANGLE), ([0, 1, 2], [1, 2, 0]))
        self.assertEqual(sorted(self.ask(hosts, FIVE)), [0, 1, 2, 3, 4])
        self.assertEqual(self.ask(hosts, STAR).count(0), 2)
        self.assertEqual(sorted(self.ask(hosts, (2, ((0, 1), (0, 1))))), [0, 1])


if __name__ == "__main__":
    unittest.main()
