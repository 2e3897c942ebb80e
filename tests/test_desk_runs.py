"""[141] to [147]: long runs of lines, refused ones among them, at two desks by turns."""

import random
import unittest

from rulestable.desk import Desk
from rulestable.errors import NoLine, NoPlace, NoPrice, NoRow, NoSymbol, NoText, Open
from tests.asking import GRAMMARS, OwnDesk, good_line, spoilt_line
from tests.refusing import outcome


class Run:
    """A desk, the test's own one beside it, and all lines that were answered, with their answers."""

    def __init__(self):
        self.desk, self.own = Desk(), OwnDesk()
        self.lines, self.answers = [], []
        # The text about which lines are made: that of the last grammar, or some other one at first.
        self.text = "S : a"

    def say(self, case, line):
        """Say a line at both desks; tell what came of it."""
        found, wanted = outcome(self.desk.say, line), outcome(self.own.say, line)
        case.assertEqual(found, wanted, self.lines[-6:] + [line])
        if found[0] == "told":
            case.assertIs(type(found[1]), str)
            self.lines.append(line)
            self.answers.append(found[1])
            if line.startswith("grammar "):
                self.text = line[8:].replace(" # ", "\n")
        return found

    def again(self, case):
        """A desk made anew that is told just what was answered answers the same, and has come to the same."""
        other = Desk()
        case.assertEqual([other.say(line) for line in self.lines], self.answers)
        for line in ("show", "looked"):
            case.assertEqual(outcome(other.say, line), outcome(self.desk.say, line))
        self.desk = other


class TestRuns(unittest.TestCase):

    def run_of(self, chance, turns, counts):
        runs = [Run(), Run()]
        for turn in range(turns):
            run = runs[turn % 2]
            if chance.random() < 0.03 or turn < 2:
                line = "grammar " + chance.choice(GRAMMARS).replace("\n", " # ")
            else:
                line = good_line(run.text, chance)
            if chance.random() < 0.2:
                line = spoilt_line(line, chance)
            found = run.say(self, line)
            key = line.split(" ")[0] if found[0] == "told" else found[0]
            counts[key] = counts.get(key, 0) + 1
        for run in runs:
            run.again(self)
            run.say(self, "show")
            run.say(self, "looked")
            run.say(self, "change 0 0")

    def test_two_desks_by_turns(self):
        chance, counts = random.Random(141), {}
        for turn in range(25):
            self.run_of(chance, 160, counts)
        words = "grammar show heads signs empty live first behind table laid read quick change looked all on mend".split()
        for key in words + [NoLine, NoSymbol, NoRow, NoPlace, NoPrice, NoText, Open]:
            self.assertGreater(counts.get(key, 0), 20, counts)

    def test_changes_of_one_row(self):
        chance, counts = random.Random(144), {}
        for text in GRAMMARS:
            run = Run()
            run.say(self, "grammar " + text.replace("\n", " # "))
            for turn in range(40):
                line = good_line(text, chance)
                while line.split(" ")[0] not in ("read", "change", "looked"):
                    line = good_line(text, chance)
                found = run.say(self, line)
                counts[found[0]] = counts.get(found[0], 0) + 1
            run.again(self)
        self.assertGreater(counts["told"], 500, counts)


if __name__ == "__main__":
    unittest.main()
