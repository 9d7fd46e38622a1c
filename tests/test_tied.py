"""[18]: ties that come and go."""

import random
import unittest

from huedties.errors import NoPlace, NoTie
from huedties.hueings import is_whole
from huedties.story import played
from huedties.tied import Tied

from samples import Asking, chance_web, complete, enough, full_sides, is_good, lists_in, spoil, thick_ring, told


class Watched:
    """A Tied, and beside it what it must be by the words of the document: each deed is looked at."""

    def __init__(self, case, many):
        self.case = case
        self.many = many
        self.tied = Tied(many)
        self.ends = {}
        self.hues = {}
        self.top = 0
        self.given = 0
        self.past = []
        self.look()

    def state(self):
        return (dict(self.ends), dict(self.hues), self.top, self.given)

    def web(self):
        return (self.many, tuple([self.ends[number] for number in sorted(self.ends)]))

    def row(self):
        return [self.hues[number] for number in sorted(self.ends)]

    def asked(self):
        """What is told without a deed."""
        return (self.tied.ties(), self.tied.limit(), self.tied.web_now(),
                [self.tied.hue_of(number) for number in sorted(self.ends)])

    def look(self):
        case = self.case
        numbers = sorted(self.ends)
        answer = self.asked()
        right = ([(number,) + self.ends[number] + (self.hues[number],) for number in numbers], self.top,
                 (self.web(), numbers), self.row())
        case.assertEqual(told(answer), told(right))
        case.assertTrue(is_good(self.web(), self.row()))
        case.assertTrue(all(hue is not None and hue < self.top for hue in self.row()))
        marks = [id(found) for found in lists_in(answer) + lists_in(self.asked())]
        case.assertEqual(len(set(marks)), len(marks), "two told lists are one and the same")
        spoil(answer)
        case.assertEqual(told(self.asked()), told(right), "changing an answer changed a later one")

    def changed(self, changes, row):
        """Looks at told changes, from the hues of before to this row."""
        case = self.case
        case.assertIs(type(changes), list)
        right = [(number, self.hues[number], hue) for number, hue in zip(sorted(self.ends), row)
                 if self.hues[number] != hue]
        case.assertEqual(told(changes), told(right))
        for number, hue in zip(sorted(self.ends), row):
            self.hues[number] = hue
        spoil(changes)

    def now(self):
        hues = {number: hue for number, one, other, hue in self.tied.ties()}
        return [hues[number] for number in sorted(self.ends)]

    def come(self, one, other):
        case = self.case
        self.past.append(self.state())
        answer = self.tied.come(one, other)
        case.assertIs(type(answer), tuple)
        number, steps, changes = answer
        case.assertEqual(number, self.given)
        self.given += 1
        self.ends[number] = (min(one, other), max(one, other))
        self.hues[number] = None
        self.top = max(self.top, enough(self.web()))
        places = {name: at for at, name in enumerate(sorted(self.ends))}
        inner = [(step[0], places[step[1]], step[2]) if step[0] == "hue" else
                 (step[0], places[step[1]], places[step[2]]) if step[0] == "move" else step for step in steps]
        row = case.play(self.web(), self.row(), inner, self.top, ("hue", "move", "row"))
        case.assertEqual(played(self.web(), self.row(), inner)[-1], row)
        case.assertEqual(row, self.now())
        case.assertIn((number, None, self.now()[-1]), changes)
        self.changed(changes, row)
        spoil(steps)
        self.look()
        return (number, [step[0] for step in inner])

    def go(self, number):
        self.past.append(self.state())
        self.case.assertIsNone(self.tied.go(number))
        del self.ends[number]
        del self.hues[number]
        self.look()

    def settle(self):
        case = self.case
        self.past.append(self.state())
        changes = self.tied.settle()
        self.top = enough(self.web())
        if all(hue < self.top for hue in self.row()):
            case.assertEqual(changes, [])
        answer = list(changes)
        self.changed(changes, self.now())
        self.look()
        return answer

    def undo(self):
        case = self.case
        answer = self.tied.undo()
        case.assertIs(answer, bool(self.past))
        if self.past:
            self.ends, self.hues, self.top, self.given = self.past.pop()
        self.look()
        return answer

    def refused(self, kind, deed, *things):
        self.case.refused(kind, getattr(self.tied, deed), *things)
        self.look()


class Coming(Asking):

    def test_none_at_first(self):
        for many in (0, 1, 2, 30):
            tied = Tied(many)
            self.assertEqual(tied.ties(), [])
            self.assertEqual(tied.limit(), 0)
            self.assertEqual(tied.web_now(), ((many, ()), []))
            self.assertIs(tied.undo(), False)
            self.assertEqual(tied.settle(), [])
            self.assertEqual(tied.limit(), 0)

    def test_first_ones(self):
        tied = Tied(3)
        self.assertEqual(tied.come(1, 0), (0, [("hue", 0, 0)], [(0, None, 0)]))
        self.assertEqual(tied.limit(), 2)
        number, steps, changes = tied.come(1, 2)
        self.assertEqual(number, 1)
        self.assertEqual(changes[-1][:2], (1, None))
        self.assertEqual(tied.limit(), 3)
        self.assertEqual([row[:3] for row in tied.ties()], [(0, 0, 1), (1, 1, 2)])
        self.assertEqual(tied.web_now(), ((3, ((0, 1), (1, 2))), [0, 1]))

    def test_places_in_any_order(self):
        watched = Watched(self, 4)
        for one, other in [(0, 1), (1, 0), (3, 2), (2, 3), (0, 3), (3, 0)]:
            watched.come(one, other)

    def test_webs_of_many_kinds(self):
        for web in (complete(5), complete(6), thick_ring(3, 4), thick_ring(5, 3), (2, ((0, 1),) * 12),
                    (9, tuple([(0, k) for k in range(1, 9)] * 2)), chance_web(1, 12, 24), chance_web(2, 6, 24, 7)):
            watched = Watched(self, web[0])
            for one, other in web[1]:
                watched.come(one, other)

    def test_steps_that_change_others(self):
        # Webs of as many ties at each place, in which some went and come again, so that hues are scarce; and two went
        # at first, so that numbers are no places in the web.
        words = []
        for seed in range(80):
            dice = random.Random(seed)
            web = [complete(5), complete(7), complete(8), full_sides(4, 4)][seed % 4]
            watched = Watched(self, web[0])
            watched.come(0, 1)
            watched.come(0, 2)
            watched.go(0)
            watched.go(1)
            for one, other in dice.sample(web[1], len(web[1])):
                words.extend(watched.come(one, other)[1])
            for turn in range(12):
                number = dice.choice(sorted(watched.ends))
                one, other = watched.ends[number]
                watched.go(number)
                if turn % 4 == 3:
                    watched.settle()
                words.extend(watched.come(one, other)[1])
        self.assertGreater(words.count("move"), 10)
        self.assertGreater(words.count("row"), 10)

    def test_refusals(self):
        watched = Watched(self, 3)
        watched.come(0, 1)
        for one, other in [(0, 3), (3, 0), (-1, 0), (0, -1), (1, 1), (0, 0), (3, 3), (-1, -1), (5, 9), (0, 10 ** 40)]:
            watched.refused(NoPlace, "come", one, other)
        # The refused ones had no number, and are no deeds to take back.
        self.assertEqual(watched.come(1, 2)[0], 1)
        watched.undo()
        watched.undo()
        watched.undo()
        for many in (0, 1):
            Watched(self, many).refused(NoPlace, "come", 0, 0)
            Watched(self, many).refused(NoPlace, "come", 0, 1)

    def test_a_refusal_is_no_deed(self):
        tied = Tied(2)
        self.refused(NoPlace, tied.come, 0, 2)
        self.refused(NoTie, tied.go, 0)
        self.refused(NoTie, tied.hue_of, 0)
        self.assertIs(tied.undo(), False)
        self.assertEqual(tied.come(0, 1)[0], 0)


class Going(Asking):

    def test_go(self):
        watched = Watched(self, 5)
        for one, other in complete(5)[1]:
            watched.come(one, other)
        top = watched.tied.limit()
        for number in (3, 0, 9, 5, 1, 2, 4, 8, 7, 6):
            watched.go(number)
            self.assertEqual(watched.tied.limit(), top)
        # Numbers are never given anew.
        self.assertEqual(watched.come(0, 1)[0], 10)
        watched.go(10)
        self.assertEqual(watched.come(0, 1)[0], 11)

    def test_refusals(self):
        watched = Watched(self, 3)
        for deed in ("go", "hue_of"):
            for number in (0, -1, 1, 10 ** 40):
                watched.refused(NoTie, deed, number)
        for one, other in [(0, 1), (1, 2), (0, 2)]:
            watched.come(one, other)
        watched.go(1)
        for deed in ("go", "hue_of"):
            for number in (1, 3, -1, -2, -3, 10 ** 40, -10 ** 40):
                watched.refused(NoTie, deed, number)
        self.assertIn(watched.tied.hue_of(2), range(4))
        watched.undo()
        self.assertEqual(sorted(watched.ends), [0, 1, 2])

    def test_a_number_that_was_taken_back_is_no_tie(self):
        watched = Watched(self, 3)
        watched.come(0, 1)
        watched.undo()
        watched.refused(NoTie, "go", 0)
        watched.refused(NoTie, "hue_of", 0)


class Settling(Asking):

    def test_limit_comes_down(self):
        watched = Watched(self, 8)
        for one, other in [(0, k) for k in range(1, 8)]:
            watched.come(one, other)
        self.assertEqual(watched.tied.limit(), 8)
        for number in range(5):
            watched.go(number)
        self.assertEqual(watched.tied.limit(), 8)
        watched.settle()
        self.assertEqual(watched.tied.limit(), 3)
        self.assertEqual(watched.settle(), [])
        watched.go(5)
        watched.go(6)
        self.assertEqual(watched.settle(), [])
        self.assertEqual(watched.tied.limit(), 0)

    def test_changes_are_told(self):
        watched = Watched(self, 6)
        for one, other in complete(6)[1]:
            watched.come(one, other)
        # Of the ties of the greatest hues some stay, so that they must change.
        high = sorted(watched.hues, key=lambda number: -watched.hues[number])[:3]
        for number in sorted(watched.ends):
            if number not in high:
                watched.go(number)
        self.assertTrue(watched.settle())

    def test_changes_of_others(self):
        # Ties of great hues find no hue free below the new limit, so that ties of lesser ones must change.
        others = 0
        for seed in range(60):
            dice = random.Random(seed)
            web = [complete(5), complete(7), full_sides(4, 4)][seed % 3]
            watched = Watched(self, web[0])
            ties = [(tie, True) for tie in web[1]] + [(dice.choice(web[1]), False) for turn in range(12)]
            gone = []
            for (one, other), stays in dice.sample(ties, len(ties)):
                number = watched.come(one, other)[0]
                if not stays:
                    gone.append(number)
            for number in gone:
                watched.go(number)
            changes = watched.settle()
            others += len([number for number, old, new in changes if old < watched.tied.limit()])
            watched.undo()
            self.assertEqual(len(watched.ends), len(web[1]))
        self.assertGreater(others, 10)

    def test_none_to_change(self):
        watched = Watched(self, 4)
        watched.come(0, 1)
        watched.come(2, 3)
        self.assertEqual(watched.settle(), [])
        # A deed that changed nothing is one to be taken back, too.
        self.assertTrue(watched.undo())
        self.assertEqual(len(watched.ends), 2)

    def test_come_behind_settle(self):
        watched = Watched(self, 6)
        for one, other in complete(6)[1]:
            watched.come(one, other)
        for number in range(0, 15, 2):
            watched.go(number)
        watched.settle()
        for one, other in complete(6)[1]:
            watched.come(one, other)


class Undoing(Asking):

    def test_each_kind(self):
        watched = Watched(self, 4)
        watched.come(0, 1)
        watched.come(1, 2)
        watched.undo()
        self.assertEqual(watched.come(2, 3)[0], 1)
        watched.go(0)
        watched.undo()
        self.assertEqual(sorted(watched.ends), [0, 1])
        watched.go(0)
        watched.settle()
        watched.undo()
        watched.undo()
        self.assertEqual(watched.tied.limit(), 2)
        self.assertEqual(sorted(watched.ends), [0, 1])
        watched.undo()
        watched.undo()
        self.assertIs(watched.undo(), False)
        self.assertIs(watched.undo(), False)
        self.assertEqual(watched.come(0, 1)[0], 0)

    def test_a_greatest_number_that_went_stays_given(self):
        watched = Watched(self, 3)
        watched.come(0, 1)
        watched.come(0, 2)
        watched.go(1)
        self.assertEqual(watched.come(1, 2)[0], 2)
        watched.undo()
        self.assertEqual(watched.come(1, 2)[0], 2)
        watched.undo()
        watched.undo()
        watched.undo()
        self.assertEqual(watched.come(1, 2)[0], 1)

    def test_all_the_way_back(self):
        for seed in range(6):
            dice = random.Random(seed)
            watched = Watched(self, 6)
            for turn in range(40):
                self.deed_by_chance(watched, dice, 6)
            while watched.undo():
                pass
            self.assertEqual(watched.tied.ties(), [])
            self.assertEqual(watched.come(0, 1)[0], 0)

    def deed_by_chance(self, watched, dice, many):
        chance = dice.randrange(10)
        if chance < 5:
            watched.come(*dice.sample(range(many), 2))
        elif chance < 7 and watched.ends:
            watched.go(dice.choice(sorted(watched.ends)))
        elif chance == 7:
            watched.settle()
        elif chance == 8:
            watched.undo()
        else:
            watched.refused(NoTie, "go", watched.given)

    def test_deeds_by_chance(self):
        for seed in range(20):
            dice = random.Random(seed)
            watched = Watched(self, 2 + seed % 8)
            for turn in range(50):
                self.deed_by_chance(watched, dice, 2 + seed % 8)


class Beside(Asking):

    def test_two_beside_one_another(self):
        one, other, lone = Watched(self, 5), Watched(self, 5), Tied(5)
        for low, high in complete(5)[1]:
            one.come(low, high)
        for low, high in [(0, 1), (0, 1), (2, 4)]:
            other.come(low, high)
        one.go(4)
        one.look()
        other.look()
        other.settle()
        other.undo()
        one.look()
        self.assertEqual(lone.ties(), [])
        self.assertIs(lone.undo(), False)

    def test_the_same_deeds_tell_the_same(self):
        answers = []
        for turn in range(2):
            tied = Tied(8)
            row = [tied.come(one, other) for one, other in chance_web(5, 8, 25)[1]]
            row += [tied.go(number) for number in (3, 9, 24, 11, 0, 7)]
            row += [tied.settle(), tied.undo(), tied.settle(), tied.ties(), tied.web_now(), tied.limit()]
            answers.append(told(row))
            spoil(row)
        self.assertEqual(answers[0], answers[1])


class Everyday(Asking):

    def test_hundreds_of_deeds(self):
        dice = random.Random(4)
        tied = Tied(30)
        for deed in range(300):
            web, numbers = tied.web_now()
            chance = dice.randrange(100)
            if len(numbers) == 90 or chance < 12 and numbers:
                tied.go(dice.choice(numbers))
            elif chance < 14:
                tied.settle()
            elif chance < 18:
                tied.undo()
            else:
                tied.come(*dice.sample(range(30), 2))
            web, numbers = tied.web_now()
            hueing = [hue for number, one, other, hue in tied.ties()]
            self.assertTrue(is_whole(web, hueing))
            self.assertTrue(all(hue < tied.limit() for hue in hueing))
        self.assertGreater(len(numbers), 60)

    def test_ninety_ties_and_back(self):
        for web in (chance_web(8, 30, 90), chance_web(9, 6, 90), (2, ((0, 1),) * 90), thick_ring(30, 3)):
            tied = Tied(web[0])
            for one, other in web[1]:
                tied.come(one, other)
            self.assertEqual(tied.web_now(), (web, list(range(90))))
            self.assertEqual(tied.limit(), enough(web))
            hueing = [hue for number, one, other, hue in tied.ties()]
            self.assertTrue(is_good(web, hueing))
            self.assertTrue(all(hue < enough(web) for hue in hueing))
            for turn in range(90):
                self.assertIs(tied.undo(), True)
            self.assertIs(tied.undo(), False)
            self.assertEqual((tied.ties(), tied.limit()), ([], 0))


if __name__ == "__main__":
    unittest.main()
