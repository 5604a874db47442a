"""The call classes: point 10."""

import random
import unittest

from tests.lines import EXAMPLE, does, drop, last, line, rules_of, send, some_rules


def told_classes(first, second, width):
    """What classes answers, told by walking all pairs of sorts in their order."""
    told = [0]
    for left in range(8):
        for right in range(8):
            members = []
            for header in range(2 ** width):
                pair = [does(first, header, width), does(second, header, width)]
                unlike = [[outcome[0]] + outcome[2:] for outcome in pair]
                sorts = [2 + outcome[2] if outcome[0] == 2 else outcome[0] for outcome in pair]
                if unlike[0] != unlike[1] and sorts == [left, right]:
                    members.append(header)
            if members:
                told[0] += 1
                told += [left, right, len(members), members[0]]
    return told


class Classes(unittest.TestCase):

    def test_none(self):
        self.assertEqual(last(("classes",)), [0])
        self.assertEqual(last(("table", 0, EXAMPLE), ("table", 1, EXAMPLE), ("classes",)), [0])

    def test_one_table_empty(self):
        self.assertEqual(last(("table", 0, EXAMPLE), ("classes",)), [3, 1, 0, 4, 4, 3, 0, 8, 8, 4, 0, 4, 0])
        self.assertEqual(last(("table", 1, EXAMPLE), ("classes",)), [3, 0, 1, 4, 4, 0, 3, 8, 8, 0, 4, 4, 0])

    def test_by_table_0_and_then_by_table_1(self):
        first = rules_of(send(12, 0, 5), drop(12, 4), send(12, 8, 0))
        second = rules_of(send(2, 0, 1), drop(2, 2))
        self.assertEqual(
            last(("table", 0, first), ("table", 1, second), ("classes",)),
            [7, 0, 1, 2, 14, 0, 3, 2, 12, 1, 3, 2, 4, 2, 1, 2, 10, 2, 3, 2, 8, 7, 1, 2, 2, 7, 3, 2, 0])

    def test_one_port_but_unlike_headers(self):
        first = rules_of(send(0, 0, 5))
        second = rules_of(send(0, 0, 5, 9, 8))
        self.assertEqual(last(("table", 0, first), ("table", 1, second), ("classes",)), [1, 7, 7, 12, 0])

    def test_one_outcome_by_other_rules_and_rewrites(self):
        first = rules_of(drop(8, 8), send(0, 0, 2, 12, 4))
        second = rules_of(drop(12, 12), drop(8, 8), send(0, 0, 2, 4, 4))
        self.assertEqual(last(("table", 0, first), ("table", 1, second), ("classes",)), [0])

    def test_one_class_of_headers_sent_unlike(self):
        first = rules_of(send(8, 8, 1, 1, 1), send(0, 0, 1, 2, 2))
        self.assertEqual(last(("table", 0, first), ("classes",)), [1, 3, 0, 16, 0])

    def test_nothing_is_changed(self):
        self.assertEqual(line(("table", 0, EXAMPLE), ("classes",), ("shown", 0), ("shown", 1))[2:], [EXAMPLE, [0]])

    def test_against_the_second_telling(self):
        source = random.Random(10)
        for width in range(1, 8):
            for _ in range(6):
                first = some_rules(source, width)
                second = some_rules(source, width)
                with self.subTest(width=width, first=first, second=second):
                    self.assertEqual(
                        last(("wide", width), ("table", 0, rules_of(*first)), ("table", 1, rules_of(*second)),
                             ("classes",)),
                        told_classes(first, second, width))


if __name__ == "__main__":
    unittest.main()
