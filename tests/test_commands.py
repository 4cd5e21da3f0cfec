"""commands.py, promise [17], with the conventions of [2], [3] and [16]."""

import unittest

from checks import ErrorCase
from samples import BIG, LARGE_WELL, SMALL_WELLS, all_states, well
from search import reachable_from, sizes_from
from test_texts import NO_WORDS
from wellfolk.commands import run_commands
from wellfolk.errors import InvalidLine
from wellfolk.reach import obstruction
from wellfolk.simulation import Simulation
from wellfolk.texts import format_well

FIRST = "3 2*2 3*1 5*2 9*1 / 0 0 0 0"
QUERIES = ["show", "total", "weight", "legal", "terminal"]
NINES = "9999999999999"
# One line of each form.
FORMS = ["move 0 -", "move 1 0", "move 0 - 1", "goto 0 0 0 0", "finish", "add_people 4 1",
         "set_limit 4", "remove_people 0 1", "undo", "min 0 0 0 0", "max 0 0 0 0",
         "why 0 0 0 0"] + QUERIES


def run(*lines, first=FIRST):
    """Return the answers to some lines behind the text of a well."""
    return run_commands("\n".join((first,) + lines))


class CommandsTest(ErrorCase):

    def test_examples(self):
        self.assertEqual(run("min 0 0 2 0", "max 0 0 2 0", "why 0 0 0 1", "goto 0 0 2 0",
                             "weight"), ["4", "6", "more 3", "4", "10"])
        self.assertEqual(run_commands("3 2*2 3*1 5*2 9*1 / 0 0 2 0\nfinish\nshow\nundo\nlegal\n"
                                      "move 3 -"),
                         ["4", "3 2*2 3*1 5*2 9*1 / 2 1 2 0", "yes", "0<- 1<-",
                          "error IllegalMove"])

    def test_no_other_lines(self):
        self.assertEqual(run(), [])
        self.assertEqual(run_commands(text=FIRST), [])

    def test_each_command_and_query(self):
        self.assertEqual(run("move 1 -", "move 0 - 2", "total", "weight", "move 1 0", "move 2 1",
                             "legal", "terminal", "show"),
                         ["3", "4", "3", "7", "error IllegalMove", "2", "1<- 1<0 2<0",
                          "2 1 2 0", "3 2*2 3*1 5*2 9*1 / 2 0 1 0"])
        self.assertEqual(run("set_limit 4", "set_limit 9", "goto 0 0 0 1", "total", "finish"),
                         ["3", "4", "1", "1", "10"])
        self.assertEqual(run("add_people 4 1", "add_people 4 2", "add_people 1 1", "show",
                             "remove_people 0 1", "remove_people 2 2", "show"),
                         ["2", "2", "0", "3 1*1 2*2 3*1 4*3 5*2 9*1 / 0 0 0 0 0 0", "ok", "ok",
                          "3 2*2 3*1 4*1 5*2 9*1 / 0 0 0 0 0"])
        self.assertEqual(run("undo", "finish", "undo", "undo", "total"),
                         ["no", "10", "yes", "no", "0"])
        self.assertEqual(run("legal", "finish", "legal", "finish"), ["0<- 1<-", "10", ".", "0"])

    def test_min_max_and_why(self):
        for given in SMALL_WELLS[:8]:
            for state in all_states(given)[::5]:
                sizes = sizes_from(given, state)
                lines, expected = [], []
                for target in all_states(given):
                    numbers = " ".join(map(str, target))
                    lines += ["min " + numbers, "max " + numbers, "why " + numbers]
                    if target in sizes:
                        expected += [str(min(sizes[target])), str(max(sizes[target])), "-"]
                    else:
                        reason = obstruction(given, state, target)
                        expected += ["error Unreachable"] * 2 + [f"{reason[0]} {reason[1]}"]
                self.assertEqual(run(*lines, first=format_well(given, state)), expected)

    def test_goto(self):
        for state in all_states(well)[::7]:
            for target in all_states(well):
                numbers = " ".join(map(str, target))
                answers = run("goto " + numbers, "show", first=format_well(well, state))
                if target in reachable_from(well, state):
                    expected = [str(min(sizes_from(well, state)[target])),
                                format_well(well, target)]
                else:
                    expected = ["error Unreachable", format_well(well, state)]
                self.assertEqual(answers, expected)

    def test_large_numbers(self):
        first = format_well(LARGE_WELL, (0,) * 12)
        self.assertEqual(run(f"move 0 - {BIG}", f"move 1 0 {BIG}", f"move 1 - {NINES}",
                             "finish", "total", first=first),
                         [str(BIG * (BIG - 11)), str(BIG), "error IllegalMove",
                          str(76 * BIG), str(78 * BIG)])
        self.assertEqual(run("terminal", "max " + " ".join([str(BIG)] * 12), first=first),
                         [" ".join([str(BIG)] * 12), str(78 * BIG)])

    def test_sixty_lines(self):
        self.assertEqual(run(*(["set_limit 3"] * 58 + ["undo"])), ["3"] * 58 + ["yes"])

    def test_more_than_twelve_groups_in_the_first_line(self):
        given = (1, tuple((2 * k + 1, 1) for k in range(13)))
        first = format_well(given, (0,) * 13)
        self.assertEqual(run("show", "move 0 -", "total", "add_people 30 1", "add_people 1 1",
                             "remove_people 12 1", "add_people 1 1", "add_people 30 1",
                             first=first),
                         [first, "1", "1", "error TooManyGroups", "error TooManyGroups", "ok",
                          "0", "error TooManyGroups"])

    def test_the_same_as_a_simulation(self):
        simulation = Simulation(well, (0, 0, 0, 0))
        self.assertEqual(run("move 0 - 2", "goto 0 0 2 0", "set_limit 4", "finish", "weight"),
                         [str(simulation.move(0, -1, count=2)), str(simulation.goto((0, 0, 2, 0))),
                          str(simulation.set_limit(4)), str(simulation.finish()),
                          str(simulation.weight_total())])


class AnswersWithErrorsTest(ErrorCase):

    def test_each_error(self):
        self.assertEqual(run("move 2 -", "move 0 0", "move 0 1", "move 9 8", f"move {NINES} -",
                             f"move 0 {NINES}", "move 0 - 3"), ["error IllegalMove"] * 7)
        self.assertEqual(run("goto 0 0 0 1", "min 0 0 0 1", "max 0 0 0 1"),
                         ["error Unreachable"] * 3)
        self.assertEqual(run("remove_people 4 1", f"remove_people {NINES} {NINES}"),
                         ["error UnknownGroup"] * 2)
        self.assertEqual(run("remove_people 0 3", f"remove_people 3 {NINES}"),
                         ["error NotEnough"] * 2)
        self.assertEqual(run("remove_people 0 7", "remove_people 0 8", first="1 1*7 / 0"),
                         ["error LastPeople", "error NotEnough"])
        lines = [f"add_people {weight} 1" for weight in range(11, 20)]
        self.assertEqual(run(*lines), ["4", "5", "6", "7", "8", "9", "10", "11",
                                       "error TooManyGroups"])

    def test_invalid_states(self):
        for word in ("goto", "min", "max", "why"):
            for numbers in ("0", "0 0 0", "0 0 0 0 0", "3 0 0 0", "0 2 0 0", "0 0 3 0", "0 0 0 2",
                            f"0 0 0 {NINES}", f"{NINES} 0 0 0", "3", "9 9 9 9 9",
                            " ".join(["0"] * 40)):
                self.assertEqual(run(f"{word} {numbers}", "show"), ["error InvalidState", FIRST])

    def test_invalid_states_come_before_unreachable(self):
        first = "3 2*2 3*1 5*2 9*1 / 0 0 2 0"
        self.assertEqual(run("goto 3 0 0 0", "min 3 0 0 0", "max 0 0 0", "goto 2 0 0 0",
                             first=first),
                         ["error InvalidState"] * 3 + ["error Unreachable"])

    def test_the_current_groups_count(self):
        self.assertEqual(run("add_people 4 1", "goto 0 0 0 0", "goto 0 0 1 0 0", "min 0 0 2 0 0",
                             "undo", "undo", "goto 0 0 1 0", "undo", "remove_people 3 1",
                             "why 0 0 0 0", "why 0 0 0"),
                         ["2", "error InvalidState", "2", "error InvalidState", "yes", "yes", "2",
                          "yes", "ok", "error InvalidState", "-"])
        self.assertEqual(run("remove_people 0 1", "goto 2 0 0 0", "goto 1 0 0 0"),
                         ["ok", "error InvalidState", "1"])

    def test_they_change_nothing(self):
        failing = ["move 2 -", "goto 0 0 0 1", "remove_people 9 1", "remove_people 0 9", "min 9",
                   "max 0 0 0 1", "goto 0"]
        for line in failing:
            answers = run("move 1 -", line, *QUERIES, "undo", "undo")
            self.assertTrue(answers[1].startswith("error "))
            self.assertEqual(answers[2:], run("move 1 -", *QUERIES, "undo", "undo")[1:])


class InvalidLineTest(ErrorCase):

    def assert_invalid(self, index, text):
        self.assert_error(InvalidLine, {"index": index}, run_commands, text)

    def assert_invalid_line(self, line):
        """Check that a line is not of the form, wherever it stands."""
        self.assert_invalid(1, FIRST + "\n" + line)
        self.assert_invalid(3, "\n".join([FIRST, "finish", "move 9 9", line, "show"]))
        self.assert_invalid(2, "\n".join([FIRST, "show", line, "jump", ""]))

    def test_example(self):
        self.assert_invalid(1, "3 2*2 / 0\njump")
        self.assertEqual(InvalidLine.__bases__, (ValueError,))

    def test_an_empty_text(self):
        self.assert_invalid(0, "")

    def test_the_first_line(self):
        for line in NO_WORDS + ["finish", "3", "3 2*2", "3 2*2 /", "3 2*2 / 3", "3 2*2 / 0 0",
                                "3 / 0", " 3 2*2 / 0", "3 2*2 / 0 ", "3  2*2 / 0", "0 2*2 / 0",
                                "3 3*1 2*1 / 0 0"]:
            self.assert_invalid(0, line)
            self.assert_invalid(0, line + "\nshow")
            self.assert_invalid(0, line + "\njump\n")

    def test_an_empty_line(self):
        self.assert_invalid_line("")
        self.assert_invalid(1, FIRST + "\n")
        self.assert_invalid(2, FIRST + "\nshow\n")
        self.assert_invalid(2, FIRST + "\nshow\n\nshow")
        self.assert_invalid(1, FIRST + "\n\n\n")
        self.assert_invalid(0, "\n" + FIRST)
        self.assert_invalid(0, "\n")

    def test_unknown_words(self):
        for word in NO_WORDS + ["jump", "Move", "FINISH", "batch", "at_depth", "copy", "log",
                                "state", "well", "move_total", "minimum", "quit", "finish.",
                                "_run", "min_moves", "len"]:
            self.assert_invalid_line(word)
            self.assert_invalid_line(word + " 0")
            self.assert_invalid_line(word + " 0 1")

    def test_empty_words(self):
        for line in FORMS:
            self.assertEqual(len(run(line)), 1)
            self.assert_invalid_line(" " + line)
            self.assert_invalid_line(line + " ")
            if " " in line:
                self.assert_invalid_line(line.replace(" ", "  ", 1))

    def test_missing_and_superfluous_words(self):
        for line in ("move", "move 0", "move 0 - 1 1", "move 0 0 1 1", "goto", "min", "max", "why",
                     "finish 0", "finish -", "add_people", "add_people 4", "add_people 4 1 1",
                     "remove_people", "remove_people 0", "remove_people 0 1 1", "set_limit",
                     "set_limit 1 1", "undo 1", "show 0", "total 0", "weight 0", "legal 0",
                     "terminal 0"):
            self.assert_invalid_line(line)

    def test_a_wrong_number_at_each_place(self):
        wrong = [word for word in NO_WORDS if word != "-" and "\n" not in word]
        for line in FORMS:
            words = line.split(" ")
            for index in range(1, len(words)):
                for word in wrong + ([] if words[0] == "move" and index == 2 else ["-"]):
                    self.assert_invalid_line(" ".join(words[:index] + [word] + words[index + 1:]))

    def test_zeros(self):
        for line in ("move 0 - 0", "move 1 0 0", "add_people 0 1", "add_people 1 0",
                     "remove_people 0 0", "set_limit 0"):
            self.assert_invalid_line(line)
        self.assertEqual(run("move 0 0", "remove_people 0 1", "goto 0 0 0 0", "set_limit 1",
                             "add_people 1 1", "move 0 - 1"),
                         ["error IllegalMove", "ok", "0", "3", "0", "1"])

    def test_thirteen_and_fourteen_digits(self):
        lines = ["move {} -", "move 0 {}", "move 0 - {}", "goto {}", "min 0 0 0 {}",
                 "remove_people {} 1", "remove_people 0 {}"]
        for line in lines + ["add_people {} 1", "add_people 1 {}", "set_limit {}"]:
            self.assertEqual(run(line.format(NINES))[0].startswith("error"), line in lines)
            self.assert_invalid_line(line.format(NINES + "9"))
            self.assert_invalid_line(line.format("0" + NINES[1:]))

    def test_the_first_of_several_before_anything_is_processed(self):
        self.assert_invalid(2, "\n".join([FIRST, "finish", "jump", "goto", ""]))
        self.assert_invalid(59, "\n".join([FIRST] + ["move 9 9"] * 58 + ["move 0"]))
        self.assert_invalid(0, "\n".join(["x", "jump", ""]))

    def test_other_separators(self):
        for line in ("show\r", "show\t", "move\t0 -", "move 0,-", "goto 0,0,0,0", "show;show"):
            self.assert_invalid_line(line)
        self.assert_invalid(0, FIRST + "\r\nshow")
        self.assert_invalid(0, FIRST + " show")


if __name__ == "__main__":
    unittest.main()
