"""[23] and [24]: a desk."""

import itertools
import random
import unittest

from huedties.desk import run
from huedties.errors import BadRow, NoPlace, NoTie
from huedties.gluing import by_blocks
from huedties.pairings import pairing
from huedties.rounds import robin, shows_plan
from huedties.sides import two_sides
from huedties.tied import Tied

from samples import Asking, PETERSEN, blocks_of, complete, cuts_of, ends_of, enough, grown_web, some_of, thick_ring

ASKS = ["ties", "limit", "most", "sides", "fewest", "pairs", "robin 5", "rounds 2", "even 7", "blocks", "cuts"]


def rows_for(web):
    """The rows that make a web."""
    return [f"places {web[0]}"] + [f"come {one} {other}" for one, other in web[1]]


def spaced(things):
    return " ".join([str(thing) for thing in things]) or "-"


def parted(rows):
    return " ; ".join([spaced(row) for row in rows]) or "-"


class Model:
    """What a desk answers, by the words of the document, out of a Tied of its own."""

    def __init__(self, case, many):
        self.case = case
        self.tied = Tied(many)

    def deed(self, word, numbers):
        try:
            if word == "come":
                return f"tie {self.tied.come(*numbers)[0]}"
            if word == "go":
                self.tied.go(*numbers)
                return "gone"
        except (NoPlace, NoTie):
            return "refused"
        if word == "settle":
            self.tied.settle()
            return "settled"
        return "undone" if self.tied.undo() else "none"

    def ask(self, word, numbers):
        web, names = self.tied.web_now()
        if word == "ties":
            return parted(self.tied.ties())
        if word == "limit":
            return str(self.tied.limit())
        if word == "most":
            return str(max([ends_of(web).count(place) for place in ends_of(web)], default=0))
        if word == "sides":
            return spaced(two_sides(web)[1]) if two_sides(web)[0] == "sides" else "ring"
        if word == "pairs":
            return str(len(pairing(web)[0])) if two_sides(web)[0] == "sides" else "ring"
        if word == "fewest":
            beyond = [row for row in blocks_of(web) if len(row) > 16 or len(set(ends_of(some_of(web, row)))) > 12]
            return "beyond" if beyond else str(by_blocks(web)[0])
        if word == "robin":
            return parted([[f"{one}-{other}" for one, other in row] for row in robin(*numbers)])
        if word == "even":
            if numbers[0] < enough(web):
                return "few"
            low, more = divmod(len(names), numbers[0]) if numbers[0] else (0, 0)
            return spaced([low + 1] * more + [low] * (numbers[0] - more))
        return spaced(cuts_of(web)) if word == "cuts" else parted([[names[tie] for tie in row] for row in blocks_of(web)])

    def look(self, row, answer):
        word, *rest = row.split(" ")
        numbers = [int(figure) for figure in rest]
        if word in ("come", "go", "settle", "undo"):
            self.case.assertEqual(answer, self.deed(word, numbers), row)
        elif word == "rounds":
            web, names = self.tied.web_now()
            rounds = [[names.index(int(figure)) for figure in part.split(" ")] for part in answer.split(" ; ")
                      ] if answer != "-" else []
            self.case.assertTrue(shows_plan(web, numbers[0], rounds), (row, answer))
            least = max(enough(web), -(-len(names) // numbers[0]))
            self.case.assertLessEqual(len(rounds), least)
        else:
            self.case.assertEqual(answer, self.ask(word, numbers), row)


class Desk(Asking):

    def run_rows(self, rows):
        """The answers of rows, each of them looked at."""
        answers = self.ask(run, "\n".join(rows))
        self.assertIs(type(answers), list)
        full = [row for row in rows if row]
        self.assertEqual(len(answers), len(full) - 1)
        model = Model(self, int(full[0].split(" ")[1]))
        for row, answer in zip(full[1:], answers):
            self.assertIs(type(answer), str)
            model.look(row, answer)
        return answers


class Run(Desk):

    def test_an_ordinary_text(self):
        text = """places 5
come 0 1
come 2 1

come 0 2
come 3 3
come 4 9
ties
limit
most
sides
pairs
fewest
even 4
even 2
cuts
come 2 3
cuts
blocks
go 0
go 0
blocks
sides
pairs
undo
go 7"""
        answers = self.run_rows(text.split("\n"))
        ties = answers.pop(5)
        self.assertEqual(answers, [
            "tie 0", "tie 1", "tie 2", "refused", "refused", "3", "2", "ring", "ring", "3", "1 1 1 0", "few", "-", "tie 3",
            "2", "0 1 2 ; 3", "gone", "refused", "1 ; 2 ; 3", "0 0 1 0 0", "1", "undone", "refused"])
        # Which hues the three ties have isn't promised; they meet, so all three are had.
        self.assertRegex(ties, "^0 0 1 [012] ; 1 1 2 [012] ; 2 0 2 [012]$")
        self.assertEqual({row[-1] for row in ties.split(" ; ")}, {"0", "1", "2"})

    def test_empty_things(self):
        self.assertEqual(self.ask(run, "places 0"), [])
        rows = ["ties", "limit", "most", "sides", "fewest", "pairs", "robin 0", "robin 1", "rounds 1", "rounds 99", "even 0",
                "blocks", "cuts", "settle", "undo", "undo", "come 0 0", "come 0 1", "go 0", "even 2"]
        self.assertEqual(self.run_rows(["places 0"] + rows),
                         ["-", "0", "0", "-", "0", "0", "-", "-", "-", "-", "-", "-", "-", "settled", "undone", "none",
                          "refused", "refused", "refused", "0 0"])
        self.assertEqual(self.run_rows(["places 3"] + rows),
                         ["-", "0", "0", "0 0 0", "0", "0", "-", "-", "-", "-", "-", "-", "-", "settled", "undone", "none",
                          "refused", "tie 0", "gone", "0 0"])

    def test_empty_rows_anywhere(self):
        text = "places 3\ncome 0 1\nties"
        for rows in (["", "", "places 3", "come 0 1", "ties"], ["places 3", "", "come 0 1", "", "", "ties", "", ""],
                     ["", "places 3", "come 0 1", "ties", ""]):
            self.assertEqual(self.run_rows(rows), run(text))
        self.assertRegex(run(text)[1], "^0 0 1 [01]$")

    def test_deeds(self):
        rows = ["places 3", "come 1 0", "come 1 2", "undo", "come 2 0", "go 0", "come 0 1", "ties", "undo", "undo", "ties",
                "undo", "undo", "undo", "limit", "come 0 2", "limit", "go 1", "go 0", "limit", "settle", "limit", "undo",
                "limit", "undo", "ties"]
        answers = self.run_rows(rows)
        self.assertEqual(answers[:6], ["tie 0", "tie 1", "undone", "tie 1", "gone", "tie 2"])
        self.assertEqual(answers[7:9], ["undone", "undone"])
        self.assertEqual(answers[10:-1], ["undone", "undone", "none", "0", "tie 0", "2", "refused", "gone", "2", "settled",
                                          "0", "undone", "2", "undone"])
        self.assertRegex(answers[-1], "^0 0 2 [01]$")

    def test_a_refused_deed_is_not_taken_back(self):
        self.assertEqual(self.run_rows(["places 3", "come 0 1", "come 1 1", "go 5", "undo", "undo", "come 0 1"]),
                         ["tie 0", "refused", "refused", "undone", "none", "tie 0"])

    def test_ties_by_their_numbers(self):
        rows = ["places 6"] + ["come 0 1"] * 3 + ["go 0", "go 2", "come 1 2", "come 2 3", "come 1 3", "come 4 5"]
        answers = self.run_rows(rows + ["ties", "blocks", "rounds 1", "rounds 2", "cuts"])
        told = [row.split(" ") for row in answers[-5].split(" ; ")]
        self.assertEqual([row[:3] for row in told], [["1", "0", "1"], ["3", "1", "2"], ["4", "2", "3"], ["5", "1", "3"],
                                                     ["6", "4", "5"]])
        self.assertEqual(answers[-4], "1 ; 3 4 5 ; 6")
        self.assertEqual(sorted(answers[-3].split(" ; ")), ["1", "3", "4", "5", "6"])
        self.assertEqual(answers[-1], "1")

    def test_robin(self):
        for many in range(13):
            self.run_rows(["places 0", f"robin {many}"])
        self.assertEqual(self.ask(run, "places 9\nrobin 2\nrobin 1\nrobin 0"), ["0-1", "-", "-"])
        rounds = self.ask(run, "places 0\nrobin 12")[0].split(" ; ")
        self.assertEqual(len(rounds), 11)
        pairs = [pair for part in rounds for pair in part.split(" ")]
        self.assertEqual(sorted(pairs), sorted([f"{one}-{other}" for one, other in itertools.combinations(range(12), 2)]))

    def test_rounds_and_even(self):
        for web in (complete(5), complete(4), thick_ring(3, 2), thick_ring(4, 5), (12, tuple([(k, k + 6) for k in range(6)]))):
            for room in (1, 2, 3, 10, 99):
                self.run_rows(rows_for(web) + [f"rounds {room}"])
            hues = enough(web)
            for more in (hues - 1, hues, hues + 1, 50, 99, 0):
                answer = self.run_rows(rows_for(web) + [f"even {more}"])[-1]
                self.assertEqual(answer == "few", more < hues)
        # Two sides take as few rounds as can be.
        answers = self.run_rows(rows_for((8, tuple([(k, 4 + j) for k in range(4) for j in range(4)]))) + ["rounds 4"])
        self.assertEqual(len(answers[-1].split(" ; ")), 4)

    def test_fewest(self):
        self.assertEqual(self.run_rows(rows_for(PETERSEN) + ["fewest", "most", "sides", "pairs"])[-4:],
                         ["4", "3", "ring", "ring"])
        # Sixteen ties and twelve places of a block do, one more doesn't.
        for many, beyond in ((11, False), (12, False), (13, True), (30, True)):
            answers = self.run_rows(rows_for(thick_ring(many, 1)) + ["fewest"])
            self.assertEqual(answers[-1], "beyond" if beyond else str(2 + many % 2))
        for count, beyond in ((15, False), (16, False), (17, True), (60, True)):
            answers = self.run_rows(rows_for((2, ((0, 1),) * count)) + ["fewest"])
            self.assertEqual(answers[-1], "beyond" if beyond else str(count))
        # A great block beside small ones, and many small ones with more ties and places in all.
        self.assertEqual(self.run_rows(rows_for((30, ((0, 1),) + ((2, 3),) * 17)) + ["fewest", "go 5", "fewest"])[-3:],
                         ["beyond", "gone", "16"])
        row = (30, tuple([(k, k + 1) for k in range(29)] * 2))
        self.assertEqual(self.run_rows(rows_for(row) + ["fewest"])[-1], "4")

    def test_sides_and_pairs(self):
        self.assertEqual(self.run_rows(["places 4", "come 3 1", "come 1 2", "sides", "pairs"])[-2:], ["0 0 1 1", "1"])
        self.assertEqual(self.run_rows(["places 4", "come 0 1", "come 2 3", "sides", "pairs"])[-2:], ["0 1 0 1", "2"])

    def test_texts_by_chance(self):
        for seed in range(25):
            dice = random.Random(seed)
            many = dice.choice((2, 3, 5, 8, 12, 30))
            rows = [f"places {many}"]
            while len(rows) < 80:
                chance = dice.randrange(12)
                if chance < 6 and len([row for row in rows if row.startswith("come")]) < 60:
                    rows.append(f"come {dice.randrange(many + 1)} {dice.randrange(many)}")
                elif chance < 8:
                    rows.append(f"go {dice.randrange(12)}")
                elif chance < 10:
                    rows.append(dice.choice(["settle", "undo", "undo", ""]))
                else:
                    rows.append(dice.choice(ASKS + [f"rounds {dice.randrange(1, 9)}", f"even {dice.randrange(12)}"]))
            self.run_rows(rows)

    def test_eighty_rows(self):
        for web in (complete(11), thick_ring(30, 2), grown_web(3, 60), grown_web(4, 60), (2, ((0, 1),) * 60),
                    thick_ring(4, 4), PETERSEN):
            rows = rows_for((web[0], web[1][:60]))
            rows += (ASKS * 8)[:80 - len(rows)]
            self.assertEqual(len(run("\n".join(rows))), 79)
        # The dearest ask, again and again.
        rows = rows_for((30, tuple([(a + 10 * k, b + 10 * k) for k in range(3) for a, b in PETERSEN[1]])))
        rows += ["fewest"] * (80 - len(rows))
        self.assertEqual(run("\n".join(rows))[-1], "4")


class Rows(Desk):

    def bad(self, line, rows):
        for text in ("\n".join(rows), "\n".join(rows) + "\n"):
            self.assertEqual(self.refused(BadRow, run, text).line, line, rows)

    def test_first_rows(self):
        for row in ("places", "places ", "places  3", " places 3", "places 3 ", "places 3 4", "place 3", "Places 3", "PLACES 3",
                    "places 31", "places 99", "places 100", "places 03", "places 00", "places +3", "places -3", "places -0",
                    "places x", "places 3x", "places 3.0", "places 1_0", "places three", "3", "places3", "places\t3", " ", "  ",
                    "ties", "come 0 1", "undo", "-", "places 3,", "places (3)", "places 0x1", "places ~", "places 3 # three"):
            self.bad(0, [row])
            self.bad(2, ["", "", row, "ties"])
        for number in (0, 1, 9, 10, 29, 30):
            self.assertEqual(self.ask(run, f"places {number}"), [])

    def test_no_first_row(self):
        self.assertEqual(self.refused(BadRow, run, "").line, 1)
        for count in (1, 2, 5, 79):
            self.assertEqual(self.refused(BadRow, run, "\n" * count).line, count + 1)

    def test_later_rows(self):
        good = ["places 5", "come 0 1", "", "settle"]
        for row in ("come", "come 0", "come 0 1 2", "come 0  1", " come 0 1", "come 0 1 ", "come  0 1", "come 00 1", "come 0 01",
                    "come +1 0", "come -1 0", "come 100 0", "come 0 100", "come a b", "come 0,1", "come 0 1.", "Come 0 1",
                    "comes 0 1", "come 0 ", "come", "come 0 1_0", "go", "go 0 1", "go 00", "go 100", "go -1", "go x", "go ",
                    "go  0", " go 0", "go 0 ", "settle 1", "settle ", " settle", "settled", "undo 1", "undo ", "Undo", "ties 0",
                    "ties ", "tie", "limit 3", "limits", "most 1", "sides 0", "side", "fewest 2", "few", "pairs 1", "pair",
                    "robin", "robin 13", "robin 99", "robin 100", "robin 02", "robin -1", "robin 4 4", "rounds", "rounds 0",
                    "rounds 00", "rounds 01", "rounds 100", "rounds 1 1", "rounds -1", "even", "even 100", "even 01", "even 2 2",
                    "even +2", "blocks 0", "block", "cuts 1", "cut", "places 5", "places 6", "places", " ", "  ", "-", "?", "~",
                    "0", "go\t0", "ties;limit", "ties limit", "#", "none", "refused"):
            self.bad(4, good + [row])
            self.bad(4, good + [row, "ties", "nonsense"])
            self.bad(5, [""] + good + [row])

    def test_edges_that_are_written_so(self):
        rows = ["come 99 98", "come 98 99", "come 10 9", "go 99", "robin 12", "robin 0", "rounds 1", "rounds 99", "even 99", "even 0", "go 0", "come 0 0"]
        self.run_rows(["places 30"] + rows)

    def test_the_first_of_several(self):
        self.bad(1, ["places 3", "come", "places 3", "go", ""])
        self.bad(0, ["come 0 1", "places 3", "ties 0"])
        self.bad(3, ["", "places 3", "come 0 1", "places 3", "come 0"])

    def test_sixty_comes(self):
        rows = ["places 3"] + ["come 0 1"] * 60
        self.assertEqual(self.run_rows(rows)[-1], "tie 59")
        self.bad(61, rows + ["come 0 1"])
        self.bad(62, rows + ["", "come 1 2", "come 0 2"])
        self.bad(64, rows + ["undo", "go 3", "undo", "come 0 2"])
        # Refused ones count, too, and so do those that were taken back.
        rows = ["places 3"] + ["come 0 0", "come 0 7", "come 0 1", "undo"] * 19
        self.assertEqual(self.run_rows(rows + ["come 1 1", "come 1 0", "come 2 2"])[-2:], ["tie 0", "refused"])
        self.bad(80, rows + ["come 1 1", "come 1 0", "come 2 2", "come 1 0"])
        # A row that isn't so written ahead of it or behind it.
        self.bad(1, ["places 3", "come 0"] + ["come 0 1"] * 70)
        self.bad(61, ["places 3"] + ["come 0 1"] * 70 + ["come 0"])
        self.bad(60, ["places 3"] + ["come 0 1"] * 59 + ["come 0", "come 0 1", "come 0 1"])

    def test_long_rows(self):
        self.bad(1, ["places 3", "x" * 120])
        self.bad(1, ["places 3", "ties" + " " * 116])
        self.bad(0, ["9" * 120])
        self.bad(1, ["places 3", "go " + "1" * 117])


if __name__ == "__main__":
    unittest.main()
