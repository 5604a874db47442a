"""How a list of numbers holds the calls, how the answers stand, and the document's example."""

import unittest

from ruletablesdesk.tables import answers
from tests.lines import EXAMPLE, EXAMPLE_WITHOUT_DROP, HUGE, drop, last, line, rules_of, send


class NumbersOfALine(unittest.TestCase):

    def test_one_call(self):
        self.assertEqual(answers([0, 7]), [1, 0])
        self.assertEqual(answers([4, 0]), [1, 0])

    def test_each_answer_stands_behind_its_size(self):
        calls = [1, 0, 16] + EXAMPLE + [5, 0, 9, 5, 0, 5, 5, 0, 2, 4, 0]
        self.assertEqual(answers(calls),
                         [1, 3, 4, 2, 0, 1, 9, 2, 1, 1, 4, 2, 2, 2, 6, 16] + EXAMPLE)

    def test_calls_0_to_9_and_19_by_their_numbers(self):
        calls = [0, 3, 1, 0, 4, 1, 4, 0, 0, 2, 0, 1, 6, 0, 0, 1, 1, 1, 5, 4, 0, 5, 0, 2, 6, 0, 0, 7, 0,
                 8, 0, 5, 9, 0, 5, 19, 3, 0, 1, 7, 0]
        self.assertEqual(answers(calls), [
            1, 0,
            1, 1,
            1, 2,
            10, 2, 4, 0, 0, 0, 0, 1, 1, 1, 5,
            2, 1, 0,
            3, 1, 4, 0,
            1, 0,
            3, 1, 4, 4,
            3, 1, 5, 5,
            9, 2, 1, 0, 4, 0, 7, 0, 4, 4,
            1, 1,
            3, 1, 4, 4])

    def test_calls_10_to_19_by_their_numbers(self):
        calls = [0, 2, 1, 1, 13, 3, 3, 0, 0, 3, 2, 0, 0, 0, 1, 0, 0, 5, 10, 1, 5, 3, 1, 1, 1, 11, 1, 12, 1, 13, 1, 0,
                 15, 1, 16, 1, 1, 17, 1, 18, 19, 14, 1, 4, 1]
        self.assertEqual(answers(calls), [
            1, 0,
            1, 3,
            3, 1, 1, 1,
            1, 0,
            1, 0,
            1, 1,
            13, 3, 3, 0, 0, 3, 2, 0, 1, 1, 1, 0, 0, 5,
            3, 2, 0, 1,
            5, 3, 1, 1, 2, 0,
            4, 4, 1, 0, 0,
            9, 2, 0, 1, 2, 0, 0, 7, 2, 1,
            4, 1, 1, 0, 1,
            10, 2, 1, 0, 0, 0, 0, 1, 0, 0, 5])

    def test_rows_of_no_numbers(self):
        self.assertEqual(answers([1, 0, 0, 2, 0, 0, 0, 10, 0, 0, 0, 4, 0]), [1, -1, 1, -1, 1, -1, 1, 0])

    def test_the_longest_rows(self):
        calls = [1, 1, 60] + [0] * 60 + [2, 1, 0, 10] + [0] * 10 + [10, 1, 5, 30] + [0] * 30 + [4, 1]
        self.assertEqual(answers(calls), [1, -1, 1, -1, 1, -1, 1, 0])

    def test_refused_calls_are_passed_over_with_their_rows(self):
        calls = [1, 2, 3, 4, 4, 4, 2, -1, 0, 2, 0, 0, 2, 0, 9, 3, 0, 0, 0, 10, 7, 0, 2, 14, 14, 10, 0, 6, 1, 14, 0, 1]
        self.assertEqual(answers(calls), [1, -2, 1, -2, 1, -3, 1, -2, 1, -3, 1, 0])

    def test_a_line_of_100_calls(self):
        full = rules_of(*[send(15, n, 5, 15, 15) for n in range(8)])
        calls = [("table", 0, full)] + [("shown", 0)] * 99
        self.assertEqual(line(*calls), [[8]] + [full] * 99)

    def test_a_line_of_100_calls_that_ask_much(self):
        rules = rules_of(*[send(127, 2 ** n - 1, 5, 127, n) for n in range(7)], send(0, 0, 5))
        calls = [("wide", 7), ("table", 0, rules), ("table", 1, rules), ("apart", 0)]
        calls += [("small", 1), ("table", 1, rules)] * 16
        calls += [("apart", 0), ("spare", 0), ("other",), ("classes",)] * 16
        found = line(*calls)
        self.assertEqual(len(found), 100)
        self.assertEqual(found[-4:], [found[3], [2, 0, 1], [0, 0], [0]])

    def test_what_is_handed_in_stays(self):
        calls = [1, 0, 16] + EXAMPLE + [2, 0, 0, 3, 1, 1, 0, 3, 0, 2, 4, 0, 10, 0, 1, 3, 1, 0, 0, 14, 0, 19, 0, 2]
        before = list(calls)
        answers(calls)
        self.assertEqual(calls, before)

    def test_each_time_is_as_the_first(self):
        changing = [0, 7, 1, 0, 4, 1, 0, 0, 0, 1, 1, 4, 1, 0, 0, 0, 14, 0]
        asking = [4, 0, 4, 1, 5, 0, 15, 5, 0, 16]
        for _ in range(2):
            self.assertEqual(answers(changing), [1, 0, 1, 1, 1, 1, 1, 0])
            self.assertEqual(answers(asking), [1, 0, 1, 0, 1, 0, 1, -3])

    def test_what_is_given_back_is_new(self):
        first = answers([4, 0])
        first.append(7)
        self.assertEqual(answers([4, 0]), [1, 0])


class Beginning(unittest.TestCase):

    def test_four_bits_and_empty_tables(self):
        self.assertEqual(line(("shown", 0), ("shown", 1), ("does", 0, 15), ("does", 1, 16), ("hole", 0)),
                         [[0], [0], [0], [-3], [1, 0, 0]])


class WideInTheMidst(unittest.TestCase):

    def test_both_tables_are_empty_and_headers_of_other_bits(self):
        for width in range(1, 8):
            with self.subTest(width=width):
                highest = 2 ** width - 1
                self.assertEqual(
                    line(("table", 0, EXAMPLE), ("table", 1, EXAMPLE_WITHOUT_DROP), ("other",), ("wide", width),
                         ("other",), ("classes",), ("idle", 0), ("spare", 0), ("turn", 0, 0), ("small", 0),
                         ("apart", 0), ("counts", 0), ("why", 1, highest), ("why", 1, highest + 1),
                         ("from", 0, 1, [1, highest, 0]), ("from", 0, 1, [1, highest + 1, 0]),
                         ("put", 1, 0, send(highest, 0, 5)), ("other",), ("counts", 1), ("apart", 1), ("small", 1),
                         ("from", 1, 5, [1, highest, 0]))[2:],
                    [[4, 1, 12, 4], [0], [0, 0], [0], [0], [0], [-3], [0], [0], [0, 2 ** width], [0], [-3], [0], [-1],
                     [1], [1, 1, highest, 0], [1, 1, highest], rules_of(send(highest, 0, 5)), [0], [1, highest, 0]])

    def test_refused_it_changes_nothing(self):
        self.assertEqual(
            line(("table", 0, EXAMPLE), ("wide", 8), ("counts", 0), ("wide", 0), ("other",), ("why", 0, 16))[1:],
            [[-1], [3, 8, 4, 4, 0], [-1], [16, 1, 0, 0], [-3]])


class Example(unittest.TestCase):

    def test_table_0(self):
        self.assertEqual(
            line(("table", 0, EXAMPLE), ("does", 0, 9), ("does", 0, 5), ("does", 0, 2), ("own", 0, 2), ("out", 0, 2)),
            [[3], [2, 0, 1, 9], [1, 1], [2, 2, 2, 6], [1, 12, 0], [1, 12, 4]])

    def test_the_rest_of_table_0(self):
        self.assertEqual(
            line(("table", 0, EXAMPLE), ("own", 0, 0), ("own", 0, 1), ("to", 0, 1), ("to", 0, 2), ("out", 0, 1),
                 ("hole", 0)),
            [[3], [1, 8, 8], [1, 12, 4], [1, 8, 8], [1, 12, 0], [1, 8, 8], [0]])

    def test_turn(self):
        self.assertEqual(line(("table", 0, EXAMPLE), ("turn", 0, 0), ("turn", 0, 1)), [[3], [1], [0]])

    def test_both_tables(self):
        self.assertEqual(
            line(("table", 0, EXAMPLE), ("table", 1, EXAMPLE_WITHOUT_DROP), ("other",), ("classes",)),
            [[3], [2], [4, 1, 12, 4], [1, 1, 4, 4, 4]])

    def test_as_one_list(self):
        calls = [1, 0, 16] + EXAMPLE + [5, 0, 9, 5, 0, 5, 5, 0, 2, 6, 0, 2, 9, 0, 2, 13, 0, 0, 13, 0, 1]
        calls += [1, 1, 13] + EXAMPLE_WITHOUT_DROP + [18, 19]
        self.assertEqual(
            answers(calls),
            [1, 3, 4, 2, 0, 1, 9, 2, 1, 1, 4, 2, 2, 2, 6, 3, 1, 12, 0, 3, 1, 12, 4, 1, 1, 1, 0, 1, 2, 4, 4, 1, 12, 4,
             5, 1, 1, 4, 4, 4])


class WrongTable(unittest.TestCase):
    """Point 2, for each call with a table."""

    CALLS = [("table", rules_of(drop(0, 0))), ("put", 0, drop(0, 0)), ("take", 0), ("shown",), ("does", 0),
             ("own", 0), ("hole",), ("to", 0), ("out", 0), ("from", 0, [1, 0, 0]), ("idle",), ("spare",), ("turn", 0),
             ("small",), ("apart",), ("why", 0), ("counts",)]

    def test_refused(self):
        for call in self.CALLS:
            for table in (-HUGE, -2, -1, 2, 3, HUGE):
                with self.subTest(call=call, table=table):
                    self.assertEqual(last((call[0], table) + call[1:]), [-2])

    def test_ahead_of_the_other_refusals(self):
        both = [("table", []), ("put", -1, []), ("put", 0, []), ("take", 9), ("does", -1), ("own", 9), ("to", 6),
                ("out", -1), ("from", 6, [1, 0, 0]), ("from", 0, []), ("from", -1, [9]), ("turn", 0), ("turn", -1),
                ("why", 16), ("why", -1)]
        for call in both:
            with self.subTest(call=call):
                self.assertEqual(line((call[0], 0) + call[1:], (call[0], 2) + call[1:])[1], [-2])
                self.assertLess(last((call[0], 0) + call[1:])[0], 0)

    def test_nothing_has_changed(self):
        for call in self.CALLS:
            for table in (-1, 2):
                with self.subTest(call=call, table=table):
                    self.assertEqual(
                        line(("wide", 5), ("table", 0, EXAMPLE), ("table", 1, EXAMPLE_WITHOUT_DROP),
                             (call[0], table) + call[1:], ("shown", 0), ("shown", 1), ("does", 0, 31),
                             ("does", 0, 32))[4:],
                        [EXAMPLE, EXAMPLE_WITHOUT_DROP, [2, 0, 1, 31], [-3]])


if __name__ == "__main__":
    unittest.main()
