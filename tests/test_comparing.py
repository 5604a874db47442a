"""The calls that compare the two tables: other and classes."""

import random
import unittest

from tests.lines import EXAMPLE, EXAMPLE_WITHOUT_DROP, alike_rules, drop, last, line, outcomes, rules_of, send
from tests.lines import some_rules, told_set


def told_other(first, second, width):
    """What other answers: the headers of which one table makes something else than the other."""
    pairs = zip(outcomes(first, width), outcomes(second, width))
    headers = [header for header, pair in enumerate(pairs) if pair[0] != pair[1]]
    return [len(headers)] + told_set(headers, width)


def told_classes(first, second, width):
    """What classes answers, told by walking all pairs of sorts in their order."""
    pairs = list(zip(outcomes(first, width), outcomes(second, width)))
    told = [0]
    for left in range(8):
        for right in range(8):
            members = []
            for header, pair in enumerate(pairs):
                sorts = [2 + outcome[1] if outcome[0] == 2 else outcome[0] for outcome in pair]
                if pair[0] != pair[1] and sorts == [left, right]:
                    members.append(header)
            if members:
                told[0] += 1
                told += [left, right, len(members), members[0]]
    return told


class Other(unittest.TestCase):

    def test_none(self):
        self.assertEqual(last(("other",)), [0, 0])
        self.assertEqual(last(("table", 0, EXAMPLE), ("table", 1, EXAMPLE), ("other",)), [0, 0])

    def test_all(self):
        for width in (1, 4, 7):
            with self.subTest(width=width):
                self.assertEqual(last(("wide", width), ("put", 1, 0, drop(0, 0)), ("other",)), [2 ** width, 1, 0, 0])

    def test_some_by_several_patterns(self):
        self.assertEqual(last(("table", 0, rules_of(drop(15, 15), drop(12, 4))), ("other",)), [5, 2, 12, 4, 15, 15])

    def test_either_table_first(self):
        self.assertEqual(
            line(("table", 0, EXAMPLE_WITHOUT_DROP), ("table", 1, EXAMPLE), ("other",), ("table", 1, [0]),
                 ("other",))[2:],
            [[4, 1, 12, 4], [0], [16, 1, 0, 0]])

    def test_hole_is_not_dropped(self):
        self.assertEqual(last(("table", 0, rules_of(drop(3, 3))), ("other",)), [4, 1, 3, 3])

    def test_one_port_but_unlike_headers(self):
        self.assertEqual(
            last(("put", 0, 0, send(0, 0, 5)), ("put", 1, 0, send(0, 0, 5, 9, 8)), ("other",)),
            [12, 2, 8, 0, 9, 9])

    def test_unlike_ports_but_one_header(self):
        self.assertEqual(last(("put", 0, 0, send(8, 8, 0)), ("put", 1, 0, send(8, 8, 5)), ("other",)), [8, 1, 8, 8])

    def test_one_outcome_by_other_rules_and_rewrites(self):
        first = rules_of(drop(8, 8), send(0, 0, 2, 12, 4))
        second = rules_of(drop(12, 12), drop(8, 8), send(0, 0, 2, 4, 4))
        self.assertEqual(last(("table", 0, first), ("table", 1, second), ("other",)), [0, 0])

    def test_nothing_is_changed(self):
        self.assertEqual(line(("table", 0, EXAMPLE), ("other",), ("shown", 0), ("shown", 1))[2:], [EXAMPLE, [0]])


class Classes(unittest.TestCase):

    def test_none(self):
        self.assertEqual(last(("classes",)), [0])
        self.assertEqual(last(("table", 0, EXAMPLE), ("table", 1, EXAMPLE), ("classes",)), [0])

    def test_one_table_empty(self):
        self.assertEqual(last(("table", 0, EXAMPLE), ("classes",)), [3, 1, 0, 4, 4, 3, 0, 8, 8, 4, 0, 4, 0])
        self.assertEqual(last(("table", 1, EXAMPLE), ("classes",)), [3, 0, 1, 4, 4, 0, 3, 8, 8, 0, 4, 4, 0])

    def test_by_table_0_and_then_by_table_1(self):
        first = rules_of(send(12, 0, 5), drop(12, 4), send(12, 8, 0))
        second = rules_of(send(2, 0, 1), drop(2, 2))
        self.assertEqual(
            last(("table", 0, first), ("table", 1, second), ("classes",)),
            [7, 0, 1, 2, 14, 0, 3, 2, 12, 1, 3, 2, 4, 2, 1, 2, 10, 2, 3, 2, 8, 7, 1, 2, 2, 7, 3, 2, 0])

    def test_one_port_but_unlike_headers(self):
        first = rules_of(send(0, 0, 5))
        second = rules_of(send(0, 0, 5, 9, 8))
        self.assertEqual(last(("table", 0, first), ("table", 1, second), ("classes",)), [1, 7, 7, 12, 0])

    def test_one_outcome_by_other_rules_and_rewrites(self):
        first = rules_of(drop(8, 8), send(0, 0, 2, 12, 4))
        second = rules_of(drop(12, 12), drop(8, 8), send(0, 0, 2, 4, 4))
        self.assertEqual(last(("table", 0, first), ("table", 1, second), ("classes",)), [0])

    def test_one_port_and_others_beside_it(self):
        first = rules_of(send(8, 8, 0, 1, 1), send(0, 0, 3))
        second = rules_of(send(8, 8, 0), drop(4, 4), send(2, 0, 3, 1, 0))
        self.assertEqual(
            last(("table", 0, first), ("table", 1, second), ("classes",)),
            [4, 2, 2, 4, 8, 5, 0, 2, 2, 5, 1, 4, 4, 5, 5, 1, 1])

    def test_widths_at_both_ends(self):
        self.assertEqual(last(("wide", 1), ("put", 0, 0, drop(1, 1)), ("put", 1, 0, send(1, 1, 0)), ("classes",)),
                         [1, 1, 2, 1, 1])
        self.assertEqual(last(("wide", 7), ("put", 0, 0, drop(64, 64)), ("put", 1, 0, send(1, 1, 0)), ("classes",)),
                         [3, 0, 2, 32, 1, 1, 0, 32, 64, 1, 2, 32, 65])

    def test_one_class_of_headers_sent_unlike(self):
        first = rules_of(send(8, 8, 1, 1, 1), send(0, 0, 1, 2, 2))
        self.assertEqual(last(("table", 0, first), ("classes",)), [1, 3, 0, 16, 0])

    def test_nothing_is_changed(self):
        self.assertEqual(line(("table", 0, EXAMPLE), ("classes",), ("shown", 0), ("shown", 1))[2:], [EXAMPLE, [0]])


class AgainstTheSecondTelling(unittest.TestCase):

    def check(self, first, second, width):
        with self.subTest(width=width, first=first, second=second):
            self.assertEqual(
                line(("wide", width), ("table", 0, rules_of(*first)), ("table", 1, rules_of(*second)), ("other",),
                     ("classes",))[3:],
                [told_other(first, second, width), told_classes(first, second, width)])

    def test_tables_of_every_width(self):
        source = random.Random(10)
        for width in range(1, 8):
            for _ in range(10):
                self.check(some_rules(source, width), some_rules(source, width), width)
                self.check(alike_rules(source, width), alike_rules(source, width), width)


if __name__ == "__main__":
    unittest.main()
