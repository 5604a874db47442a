"""How a list of numbers holds the calls, how the answers stand, and the document's example."""

import unittest

from ruletablesdesk.tables import answers
from tests.lines import EXAMPLE, EXAMPLE_WITHOUT_DROP, HUGE, drop, last, line, rules_of, send


class NumbersOfALine(unittest.TestCase):

    def test_one_call(self):
        self.assertEqual(answers([0, 7]), [1, 0])
        self.assertEqual(answers([4, 0]), [1, 0])

    def test_each_answer_stands_behind_its_size(self):
        calls = [1, 0, 16] + EXAMPLE + [5, 0, 9, 5, 0, 5, 5, 0, 2, 4, 0]
        self.assertEqual(answers(calls),
                         [1, 3, 4, 2, 0, 1, 9, 2, 1, 1, 4, 2, 2, 2, 6, 16] + EXAMPLE)

    def test_every_call_by_its_number(self):
        calls = [0, 3, 1, 0, 4, 1, 4, 0, 0, 2, 0, 1, 6, 0, 0, 1, 1, 1, 5, 4, 0, 5, 0, 2, 6, 0, 0, 7, 0,
                 8, 0, 5, 9, 0, 5, 19, 3, 0, 1, 7, 0]
        self.assertEqual(answers(calls), [
            1, 0,
            1, 1,
            1, 2,
            10, 2, 4, 0, 0, 0, 0, 1, 1, 1, 5,
            2, 1, 0,
            3, 1, 4, 0,
            1, 0,
            3, 1, 4, 4,
            3, 1, 5, 5,
            9, 2, 1, 0, 4, 0, 7, 0, 4, 4,
            1, 1,
            3, 1, 4, 4])

    def test_rows_of_no_numbers(self):
        self.assertEqual(answers([1, 0, 0, 2, 0, 0, 0, 4, 0]), [1, -1, 1, -1, 1, 0])

    def test_the_longest_rows(self):
        self.assertEqual(answers([1, 1, 60] + [0] * 60 + [2, 1, 0, 10] + [0] * 10 + [4, 1]),
                         [1, -1, 1, -1, 1, 0])

    def test_refused_calls_are_passed_over_with_their_rows(self):
        calls = [1, 2, 3, 4, 4, 4, 2, -1, 0, 2, 0, 0, 2, 0, 9, 3, 0, 0, 0, 0, 1]
        self.assertEqual(answers(calls), [1, -2, 1, -2, 1, -3, 1, 0])

    def test_a_line_of_100_calls(self):
        full = rules_of(*[send(15, n, 5, 15, 15) for n in range(8)])
        calls = [("table", 0, full)] + [("shown", 0)] * 99
        self.assertEqual(line(*calls), [[8]] + [full] * 99)

    def test_what_is_handed_in_stays(self):
        calls = [1, 0, 16] + EXAMPLE + [2, 0, 0, 3, 1, 1, 0, 3, 0, 2, 4, 0, 19, 0, 2]
        before = list(calls)
        answers(calls)
        self.assertEqual(calls, before)

    def test_each_time_is_as_the_first(self):
        changing = [0, 7, 1, 0, 4, 1, 0, 0, 0, 1, 1, 4, 1, 0, 0, 0]
        asking = [4, 0, 4, 1, 5, 0, 15, 5, 0, 16]
        for _ in range(2):
            self.assertEqual(answers(changing), [1, 0, 1, 1, 1, 1])
            self.assertEqual(answers(asking), [1, 0, 1, 0, 1, 0, 1, -3])

    def test_what_is_given_back_is_new(self):
        first = answers([4, 0])
        first.append(7)
        self.assertEqual(answers([4, 0]), [1, 0])


class Beginning(unittest.TestCase):

    def test_four_bits_and_empty_tables(self):
        self.assertEqual(line(("shown", 0), ("shown", 1), ("does", 0, 15), ("does", 1, 16), ("hole", 0)),
                         [[0], [0], [0], [-3], [1, 0, 0]])


class Example(unittest.TestCase):

    def test_table_0(self):
        self.assertEqual(
            line(("table", 0, EXAMPLE), ("does", 0, 9), ("does", 0, 5), ("does", 0, 2), ("own", 0, 2), ("out", 0, 2)),
            [[3], [2, 0, 1, 9], [1, 1], [2, 2, 2, 6], [1, 12, 0], [1, 12, 4]])

    def test_the_rest_of_table_0(self):
        self.assertEqual(
            line(("table", 0, EXAMPLE), ("own", 0, 0), ("own", 0, 1), ("to", 0, 1), ("to", 0, 2), ("out", 0, 1),
                 ("hole", 0)),
            [[3], [1, 8, 8], [1, 12, 4], [1, 8, 8], [1, 12, 0], [1, 8, 8], [0]])

    def test_both_tables(self):
        self.assertEqual(
            line(("table", 0, EXAMPLE), ("table", 1, EXAMPLE_WITHOUT_DROP), ("classes",)),
            [[3], [2], [1, 1, 4, 4, 4]])


class WrongTable(unittest.TestCase):
    """Point 2, for each call with a table."""

    CALLS = [("table", rules_of(drop(0, 0))), ("put", 0, drop(0, 0)), ("take", 0), ("shown",), ("does", 0),
             ("own", 0), ("hole",), ("to", 0), ("out", 0)]

    def test_refused(self):
        for call in self.CALLS:
            for table in (-HUGE, -2, -1, 2, 3, HUGE):
                with self.subTest(call=call, table=table):
                    self.assertEqual(last((call[0], table) + call[1:]), [-2])

    def test_ahead_of_the_other_refusals(self):
        both = [("table", []), ("put", -1, []), ("put", 0, []), ("take", 9), ("does", -1), ("own", 9), ("to", 6),
                ("out", -1)]
        for call in both:
            with self.subTest(call=call):
                self.assertEqual(line((call[0], 0) + call[1:], (call[0], 2) + call[1:])[1], [-2])
                self.assertLess(last((call[0], 0) + call[1:])[0], 0)

    def test_nothing_has_changed(self):
        for call in self.CALLS:
            for table in (-1, 2):
                with self.subTest(call=call, table=table):
                    self.assertEqual(
                        line(("wide", 5), ("table", 0, EXAMPLE), ("table", 1, EXAMPLE_WITHOUT_DROP),
                             (call[0], table) + call[1:], ("shown", 0), ("shown", 1), ("does", 0, 31),
                             ("does", 0, 32))[4:],
                        [EXAMPLE, EXAMPLE_WITHOUT_DROP, [2, 0, 1, 31], [-3]])


if __name__ == "__main__":
    unittest.main()
