"""texts.py, promise [16], with the conventions of [2] and [3]."""

import unittest

from checks import ErrorCase
from samples import (BIG, LARGE_WELL, NO_MOVES, ONE_GROUP, SMALL_WELLS, WELL_OF_LISTS, all_states,
                     well)
from wellfolk.errors import InvalidWord
from wellfolk.moves import all_moves
from wellfolk.texts import format_moves, format_well, parse_well
from wellfolk.wells import is_state, is_well

RIGHT = "3 2*2 3*1 5*2 9*1 / 0 1 2 0"
# No word of the text of a well, wherever it stands.
NO_WORDS = ["", "-", "-1", "+1", "1.", "1.0", "01", "00", "1_0", "x", "1x", "x1", "1,", "1e3", "0x1",
            "12345678901234", "00000000000000", "*", "1*", "*1", "1**1", "1*1*1", "01*1", "1*01",
            "-1*1", "1*-1", "+1*1", "0*1", "1*0", "00*1", "1*00", "1*1/", "/1", "//", "1/", "\\",
            "x*1", "1*x", "12345678901234*1", "1*12345678901234", "1\n", "\n", "1*1\n", "\t1", "1\t"]


class FormatWellTest(ErrorCase):

    def test_example(self):
        self.assertEqual(format_well(well, (0, 1, 2, 0)), RIGHT)

    def test_others(self):
        self.assertEqual(format_well(ONE_GROUP, (0,)), "1 1*1 / 0")
        self.assertEqual(format_well(NO_MOVES, (3, 1, 2)), "1 2*3 4*1 6*2 / 3 1 2")
        self.assertEqual(format_well((BIG, ((BIG, BIG),)), (BIG,)),
                         "1000000000000 1000000000000*1000000000000 / 1000000000000")

    def test_lists_and_names(self):
        self.assertEqual(self.assert_unchanged(format_well, WELL_OF_LISTS, [0, 1, 2, 0]), RIGHT)
        self.assertEqual(format_well(state=(0, 1, 2, 0), well=well), RIGHT)


class ParseWellTest(ErrorCase):

    def assert_invalid(self, index, text):
        self.assert_error(InvalidWord, {"index": index}, parse_well, text)

    def test_examples(self):
        self.assertEqual(parse_well("5 3*2 7*1 / 2 0"), ((5, ((3, 2), (7, 1))), (2, 0)))
        self.assert_invalid(3, "5 3*2 / 3")

    def test_it_gives_back_the_pair(self):
        for given in SMALL_WELLS:
            for state in all_states(given):
                text = format_well(given, state)
                self.assertEqual(parse_well(text), (given, state))
                self.assertEqual(format_well(*parse_well(text)), text)
        for state in ((0,) * 12, (BIG,) * 12):
            self.assertEqual(parse_well(format_well(LARGE_WELL, state)), (LARGE_WELL, state))

    def test_the_kinds_of_values(self):
        pair = parse_well(RIGHT)
        self.assertIs(type(pair), tuple)
        self.assertIs(is_well(pair[0]), True)
        self.assertIs(is_state(*pair), True)
        self.assertEqual(parse_well(text=RIGHT), (well, (0, 1, 2, 0)))

    def test_beyond_the_limits(self):
        nines = 9999999999999
        self.assertEqual(parse_well(f"{nines} {nines}*{nines} / {nines}"),
                         ((nines, ((nines, nines),)), (nines,)))
        given = (1, tuple((k + 1, 1) for k in range(13)))
        self.assertEqual(parse_well(format_well(given, (1,) * 13)), (given, (1,) * 13))

    def test_thirteen_and_fourteen_digits(self):
        for index, text in (0, "{} 1*1 / 0"), (1, "1 {}*1 / 0"), (1, "1 1*{} / 0"):
            self.assertIsNotNone(parse_well(text.format("1234567890123")))
            self.assert_invalid(index, text.format("12345678901234"))
            self.assert_invalid(index, text.format("01234567890123"))
        self.assertEqual(parse_well("1 1*9999999999999 / 1234567890123")[1], (1234567890123,))
        self.assert_invalid(3, "1 1*9999999999999 / 12345678901234")

    def test_a_wrong_word_at_each_place(self):
        words = RIGHT.split(" ")
        for index in range(len(words)):
            for word in NO_WORDS:
                text = " ".join(words[:index] + [word] + words[index + 1:])
                self.assert_invalid(index, text)
                # What comes later does not matter.
                self.assert_invalid(index, " ".join(words[:index] + [word]))
                self.assert_invalid(index, " ".join(words[:index] + [word, "x", "", "/"]))

    def test_a_missing_word(self):
        words = RIGHT.split(" ")
        for number in range(1, len(words)):
            self.assert_invalid(number, " ".join(words[:number]))
        self.assert_invalid(0, "")
        self.assert_invalid(1, "5")
        self.assert_invalid(2, "5 3*2")
        self.assert_invalid(3, "5 3*2 /")
        self.assert_invalid(5, "5 3*2 7*1 / 2")

    def test_each_word_left_out(self):
        words = RIGHT.split(" ")
        # Without a group the others still ascend, but then the numbers do not fit.
        for index, expected in ((0, 0), (1, 7), (2, 7), (3, 7), (4, 8), (5, 5), (6, 7), (7, 7),
                                (8, 9), (9, 9)):
            self.assert_invalid(expected, " ".join(words[:index] + words[index + 1:]))

    def test_each_word_doubled(self):
        words = RIGHT.split(" ")
        for index in range(len(words)):
            text = " ".join(words[:index + 1] + words[index:])
            # A number too many moves the others on, until 2 stands at a group of one.
            expected = 9 if index in (6, 7, 8) else index + 1
            self.assert_invalid(expected, text)

    def test_empty_words(self):
        words = RIGHT.split(" ")
        for index in range(len(words) + 1):
            self.assert_invalid(index, " ".join(words[:index] + [""] + words[index:]))
        for text, index in (" ", 0), ("  ", 0), (" " + RIGHT, 0), (RIGHT + " ", 10), ("5 ", 1):
            self.assert_invalid(index, text)

    def test_superfluous_words(self):
        for word in ["0", "1", "/", "x", "", "2*2"] + NO_WORDS:
            self.assert_invalid(10, RIGHT + " " + word)
            self.assert_invalid(10, RIGHT + " " + word + " 1")
            self.assert_invalid(4, "5 3*2 / 2 " + word)

    def test_a_slash_before_any_group(self):
        self.assert_invalid(1, "5 /")
        self.assert_invalid(1, "5 / 3*2 / 1")
        self.assert_invalid(1, "5 / 0")
        self.assert_invalid(0, "/")
        self.assert_invalid(0, "/ 3*2 / 1")
        self.assert_invalid(3, "5 3*2 / / 1")

    def test_zeros(self):
        self.assert_invalid(0, "0 3*2 / 0")
        self.assert_invalid(1, "1 0*2 / 0")
        self.assert_invalid(1, "1 3*0 / 0")
        self.assert_invalid(3, "1 3*2 / 00")
        self.assertEqual(parse_well("1 3*2 / 0"), ((1, ((3, 2),)), (0,)))

    def test_weights_that_do_not_ascend(self):
        self.assert_invalid(2, "5 3*2 3*2 / 0 0")
        self.assert_invalid(2, "5 3*2 2*2 / 0 0")
        self.assert_invalid(3, "5 3*2 4*2 4*9 / 0 0 0")
        self.assert_invalid(3, "5 3*2 4*2 3*9 / 0 0 0")
        self.assert_invalid(2, "5 10*2 9*2 / 0 0")
        self.assertEqual(parse_well("5 9*2 10*2 / 0 0"), ((5, ((9, 2), (10, 2))), (0, 0)))

    def test_counts_that_exceed_their_group(self):
        self.assert_invalid(6, "3 2*2 3*1 5*2 9*1 / 3 1 2 0")
        self.assert_invalid(7, "3 2*2 3*1 5*2 9*1 / 0 2 2 0")
        self.assert_invalid(9, "3 2*2 3*1 5*2 9*1 / 2 1 2 2")
        self.assertEqual(parse_well("3 2*2 3*1 5*2 9*1 / 2 1 2 1")[1], (2, 1, 2, 1))
        # Not as strings: 10 is more than 9.
        self.assert_invalid(3, "3 2*9 / 10")
        self.assertEqual(parse_well("3 2*10 / 9")[1], (9,))

    def test_other_texts(self):
        for text in ("x", "\n", "\t", "-", ".", "3,2*2", "(3, ((2, 2),))", "~", "*", "move 0 -"):
            self.assert_invalid(0, text)
        self.assert_invalid(1, "3 2*2\n/ 0")
        self.assert_invalid(3, RIGHT.replace(" 9*1", "\n9*1"))
        self.assert_invalid(9, RIGHT + "\n")
        self.assert_invalid(0, "x" * 200)
        self.assertEqual(InvalidWord.__bases__, (ValueError,))


class FormatMovesTest(ErrorCase):

    def test_example(self):
        self.assertEqual([format_moves([(2, 0), (0, -1)]), format_moves([])], ["2<0 0<-", "."])

    def test_all_moves(self):
        self.assertEqual(format_moves(all_moves(well)), "0<- 1<- 1<0 2<0 2<1")
        self.assertEqual(format_moves([(11, 10), (10, -1)]), "11<10 10<-")
        self.assertEqual(format_moves([(0, -1)] * 300), " ".join(["0<-"] * 300))

    def test_lists_and_names(self):
        self.assertEqual(self.assert_unchanged(format_moves, [[2, 0], (0, -1)]), "2<0 0<-")
        self.assertEqual(format_moves(moves=((2, 0),)), "2<0")
        self.assertEqual(format_moves(()), ".")


if __name__ == "__main__":
    unittest.main()
