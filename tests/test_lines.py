"""Point 3: one comer's wishes, written and read."""

import inspect
import itertools
import unittest

from choosehall.errors import BadLine, HallError, NoComer, NoHouse, Twice
from choosehall.lines import read, shown

REFUSALS = (BadLine, NoComer, NoHouse, Twice)


class Writing(unittest.TestCase):
    def test_arguments(self):
        self.assertEqual(list(inspect.signature(shown).parameters), ["comer", "row"])

    def test_wishes_in_order(self):
        self.assertEqual(shown(3, [1, 0]), "3: 1 0")
        self.assertEqual(shown(3, [0, 1]), "3: 0 1")
        self.assertEqual(shown(0, [7]), "0: 7")
        self.assertEqual(shown(23, [7, 6, 5, 4, 3, 2, 1, 0]), "23: 7 6 5 4 3 2 1 0")

    def test_no_wishes(self):
        self.assertEqual(shown(3, []), "3:")
        self.assertEqual(shown(0, []), "0:")

    def test_the_list_stays(self):
        row = [1, 0, 5]
        shown(3, row)
        self.assertEqual(row, [1, 0, 5])

    def test_somewhat_beyond_the_bounds_is_written(self):
        self.assertEqual(shown(24, [8, 10]), "24: 8 10")


class Reading(unittest.TestCase):
    def test_arguments(self):
        self.assertEqual(list(inspect.signature(read).parameters), ["line"])

    def test_a_pair_of_comer_and_list(self):
        pair = read("3: 1 0")
        self.assertIs(type(pair), tuple)
        self.assertIs(type(pair[0]), int)
        self.assertIs(type(pair[1]), list)
        self.assertEqual(pair, (3, [1, 0]))

    def test_no_wishes(self):
        self.assertEqual(read("3:"), (3, []))

    def test_nought_itself(self):
        self.assertEqual(read("0:"), (0, []))
        self.assertEqual(read("0: 0"), (0, [0]))
        self.assertEqual(read("10: 0 1"), (10, [0, 1]))

    def test_last_comer_and_last_house(self):
        self.assertEqual(read("23:"), (23, []))
        self.assertEqual(read("23: 7"), (23, [7]))

    def test_what_is_written_is_read_back(self):
        for comer in range(24):
            for many in range(4):
                for row in itertools.permutations(range(8), many):
                    self.assertEqual(read(shown(comer, list(row))), (comer, list(row)))
        for row in itertools.islice(itertools.permutations(range(8)), 0, None, 97):
            self.assertEqual(read(shown(5, list(row))), (5, list(row)))

    def test_two_calls_answer_alike_in_new_lists(self):
        first = read("3: 1 0")
        first[1].append(5)
        self.assertEqual(read("3: 1 0"), (3, [1, 0]))


class Refusals(unittest.TestCase):
    def assert_refused(self, due, *lines):
        for line in lines:
            with self.subTest(line=line):
                with self.assertRaises(HallError) as caught:
                    read(line)
                self.assertIsInstance(caught.exception, ValueError)
                self.assertEqual([one for one in REFUSALS if isinstance(caught.exception, one)], [due])


class OneDue(Refusals):
    def test_no_number_where_one_is_due(self):
        self.assert_refused(BadLine, "", ":", " ", ": 1", "a:", "3: a", "3: 1 a", "a: 1", "x3:", "3x:", "3: 1x")

    def test_colons(self):
        self.assert_refused(BadLine, "3", "3 1 0", "3 1", "3::", "3:: 1", "3: 1:", "3: 1: 0", ":3: 1", "3; 1")

    def test_blanks(self):
        self.assert_refused(BadLine, "3:1", "3:1 0", "3:  1", "3: 1  0", "3: ", "3:  ", "3: 1 ", "3: 1 0 ")
        self.assert_refused(BadLine, " 3:", " 3: 1", "3 :", "3 : 1", "1 3: 0")

    def test_other_signs_than_blanks(self):
        self.assert_refused(BadLine, "3:\t1", "3: 1\t0", "3: 1,0", "3: 1, 0", "3:\u00a01", "3: 1\u00a00")
        self.assert_refused(BadLine, "3:\n", "3: 1\n", "\n3: 1", "3: 1\r", "3: 1\n0", "3: \n1", "3\n: 1", "3: 1\x00")

    def test_signs_ahead_and_other_ways_to_write_numbers(self):
        self.assert_refused(BadLine, "-1:", "+1:", "-0:", "3: -1", "3: +1", "3: 1 -0", "1_0:", "3: 1_0", "0x1:", "3: 1.0")

    def test_figures_of_other_scripts(self):
        self.assert_refused(BadLine, "\u0663:", "3: \u0661", "\uff13:", "3: \uff11", "\u00b2:", "3: \u00b2")

    def test_a_nought_ahead(self):
        self.assert_refused(BadLine, "03:", "00:", "3: 01", "3: 00", "3: 1 00", "000000:", "000001: 1")

    def test_six_figures_and_seven(self):
        self.assert_refused(NoComer, "100000:", "999999:")
        self.assert_refused(NoHouse, "0: 100000", "0: 1 999999")
        self.assert_refused(BadLine, "1000000:", "9999999:", "0: 1000000", "0: 1 9999999", "0000003:", "3: 0000001")
        self.assert_refused(BadLine, "1" * 5000 + ":", "0: " + "1" * 5000)

    def test_a_comer_above_23(self):
        self.assert_refused(NoComer, "24:", "24: 1", "25:", "30: 0 1", "100:")

    def test_a_house_above_7(self):
        self.assert_refused(NoHouse, "3: 8", "3: 1 8", "3: 8 1", "23: 9", "3: 10", "0: 0 1 2 3 4 5 6 7 8")

    def test_a_house_that_stands_twice(self):
        self.assert_refused(Twice, "3: 1 1", "3: 0 0", "3: 1 0 1", "3: 0 1 2 2", "23: 7 6 7", "3: 1 1 1")
        self.assert_refused(Twice, "0: 0 1 2 3 4 5 6 7 0")


class SeveralDue(Refusals):
    def test_bad_line_ahead_of_no_comer(self):
        self.assert_refused(BadLine, "24", "24: ", "24:1", "24: a", "24: 01", "24: 1000000", "24: 1 ", "24::")

    def test_bad_line_ahead_of_no_house(self):
        self.assert_refused(BadLine, "3: 8 ", "3: 8 a", "a: 8", "03: 8", "3: 8  1", "3:8", "3: 8 01", "1000000: 8")

    def test_bad_line_ahead_of_twice(self):
        self.assert_refused(BadLine, "3: 1 1 ", "3: 1 1 a", "a: 1 1", "03: 1 1", "3: 1  1", "3: 1 01", "3:1 1")

    def test_no_comer_ahead_of_no_house(self):
        self.assert_refused(NoComer, "24: 8", "999999: 999999", "24: 1 8")

    def test_no_comer_ahead_of_twice(self):
        self.assert_refused(NoComer, "24: 1 1", "24: 0 1 0")

    def test_no_house_ahead_of_twice(self):
        self.assert_refused(NoHouse, "3: 8 8", "3: 1 1 8", "3: 8 1 1", "3: 1 8 1")

    def test_three_and_four_due(self):
        self.assert_refused(NoComer, "24: 8 8", "24: 1 1 8")
        self.assert_refused(BadLine, "24: 8 8 ", "24: 1 1 8 a", "024: 8 8", "24: 8  8")


if __name__ == "__main__":
    unittest.main()
