"""Ties that come and go, each with a hue all the while."""

from huedties.errors import NoPlace, NoTie
from huedties.fans import hued_in
from huedties.story import played
from huedties.webs import check_place, enough


def in_numbers(step, numbers):
    """A step of a web's ties, by the numbers that they have."""
    word = step[0]
    if word == "hue":
        return (word, numbers[step[1]], step[2])
    if word == "move":
        return (word, numbers[step[1]], numbers[step[2]])
    return step


class Tied:
    """Rows are tuples (number, one, other, hue) of the ties that are there, by rising numbers.

    Below bound all hues are, given is how many numbers were, and past holds all three as they were ahead of each
    deed that isn't undone. Rows are a tuple, so that what past holds never changes.
    """

    def __init__(self, many):
        self.many = many
        self.rows = ()
        self.bound = 0
        self.given = 0
        self.past = []

    def row_of(self, number):
        for row in self.rows:
            if row[0] == number:
                return row
        raise NoTie("no such tie is there")

    def check_ends(self, one, other):
        web = self.web_now()[0]
        check_place(web, one)
        check_place(web, other)
        if one == other:
            raise NoPlace("both places are alike")

    def hues_now(self):
        return [hue for number, one, other, hue in self.rows]

    def keep(self):
        self.past.append((self.rows, self.bound, self.given))

    def change(self, hueing):
        """Gives all ties that are there these hues, and tells whose hue is otherwise now."""
        told = [(row[0], row[3], hue) for row, hue in zip(self.rows, hueing) if row[3] != hue]
        self.rows = tuple([row[:3] + (hue,) for row, hue in zip(self.rows, hueing)])
        return told

    def come(self, one, other):
        self.check_ends(one, other)
        self.keep()
        number = self.given
        self.given += 1
        self.rows = self.rows + ((number, min(one, other), max(one, other), None),)
        web, numbers = self.web_now()
        self.bound = max(self.bound, enough(web))
        hueing = self.hues_now()
        steps = hued_in(web, hueing, len(numbers) - 1, self.bound)
        changes = self.change(played(web, hueing, steps)[-1])
        return (number, [in_numbers(step, numbers) for step in steps], changes)

    def go(self, number):
        gone = self.row_of(number)
        self.keep()
        self.rows = tuple([row for row in self.rows if row != gone])

    def hue_of(self, number):
        return self.row_of(number)[3]

    def ties(self):
        return list(self.rows)

    def limit(self):
        return self.bound

    def settle(self):
        self.keep()
        web = self.web_now()[0]
        self.bound = enough(web)
        hueing = [hue if hue < self.bound else None for hue in self.hues_now()]
        for tie in [other for other, hue in enumerate(hueing) if hue is None]:
            hueing = played(web, hueing, hued_in(web, hueing, tie, self.bound))[-1]
        return self.change(hueing)

    def undo(self):
        if not self.past:
            return False
        rows, bound, given = self.past.pop()
        self.rows = rows
        self.bound = bound
        self.given = given
        return True

    def web_now(self):
        ends = tuple([(one, other) for number, one, other, hue in self.rows])
        return ((self.many, ends), [number for number, one, other, hue in self.rows])
