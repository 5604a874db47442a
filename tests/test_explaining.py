"""The calls that tell how a header comes to its outcome: from, why and counts."""

import random
import unittest

from tests.lines import EXAMPLE, HUGE, all_have_bits, alike_rules, does, drop, last, line, outcomes, rules_of, send
from tests.lines import some_rules, told_set

NOT_PATTERNS = [
    ("nothing", []),
    ("fewer than none", [-1]),
    ("least count", [-HUGE]),
    ("huge count", [HUGE]),
    ("one told of none", [0, 0, 0]),
    ("one number told of none", [0, 0]),
    ("none told of one", [1]),
    ("half a pattern", [1, 8]),
    ("a pattern and a half", [1, 8, 8, 0]),
    ("two told of one", [1, 8, 8, 4, 4]),
    ("one told of two", [2, 8, 8]),
    ("one and a half told of two", [2, 8, 8, 4]),
    ("nine, and nothing", [9]),
    ("nine patterns", [9] + [0, 0] * 9),
    ("nine told of eight", [8] + [0, 0] * 9),
    ("seven told of eight", [8] + [0, 0] * 7),
    ("fourteen patterns", [14] + [0, 0] * 14),
    ("all that fits", [8] + [0] * 29),
    ("bits out of width", [1, 16, 0]),
    ("bits out of width that are 1", [1, 16, 16]),
    ("negative bits", [1, -1, 0]),
    ("negative ones", [1, 8, -8]),
    ("negative ones within endless bits", [1, 15, -16]),
    ("negative both", [1, -1, -1]),
    ("ones that aren't told", [1, 1, 2]),
    ("ones that aren't told at all", [1, 0, 1]),
    ("more ones than told", [1, 5, 7]),
    ("huge bits", [1, HUGE, 0]),
    ("huge ones", [1, 0, HUGE]),
    ("least bits", [1, -HUGE, 0]),
    ("the last one out of width", [3, 0, 0, 8, 8, 16, 0]),
    ("the last one's ones not told", [3, 0, 0, 8, 8, 4, 2]),
    ("the first one's ones not told", [2, 4, 2, 0, 0]),
    ("patterns without a count", [8, 8]),
]


class From(unittest.TestCase):

    def test_as_they_came(self):
        rules = rules_of(send(8, 8, 1), send(0, 0, 2))
        self.assertEqual(
            line(("table", 0, rules), ("from", 0, 1, [1, 12, 12]), ("from", 0, 1, [1, 4, 4]),
                 ("from", 0, 2, [1, 4, 4]), ("from", 0, 1, [1, 8, 0]), ("from", 0, 3, [1, 0, 0]))[1:],
            [[1, 12, 12], [1, 12, 12], [1, 12, 4], [0], [0]])

    def test_the_header_that_comes_out_is_matched(self):
        rules = rules_of(send(8, 8, 1, 12, 4), send(0, 0, 1, 1, 1))
        self.assertEqual(
            line(("table", 0, rules), ("from", 0, 1, [1, 8, 8]), ("from", 0, 1, [1, 12, 4]), ("from", 0, 1, [1, 1, 0]),
                 ("from", 0, 1, [1, 4, 0]), ("from", 0, 1, [1, 15, 5]))[1:],
            [[0], [2, 12, 4, 8, 8], [1, 9, 8], [1, 12, 0], [2, 14, 4, 11, 9]])

    def test_all_that_become_one(self):
        rules = rules_of(drop(15, 9), send(0, 0, 5, 15, 6))
        all_but_nine = [4, 8, 0, 15, 8, 14, 10, 12, 12]
        self.assertEqual(
            line(("table", 0, rules), ("from", 0, 5, [1, 15, 6]), ("from", 0, 5, [1, 15, 7]), ("from", 0, 5, [1, 0, 0]),
                 ("to", 0, 5))[1:],
            [all_but_nine, [0], all_but_nine, all_but_nine])

    def test_no_pattern(self):
        self.assertEqual(line(("put", 0, 0, send(0, 0, 0)), ("from", 0, 0, [0]), ("from", 1, 0, [0]))[1:], [[0], [0]])

    def test_several_patterns_and_such_as_overlap(self):
        rules = rules_of(send(0, 0, 0))
        self.assertEqual(
            line(("table", 1, rules), ("from", 1, 0, [2, 12, 4, 12, 8]), ("from", 1, 0, [2, 8, 8, 4, 4]),
                 ("from", 1, 0, [2, 4, 4, 8, 8]), ("from", 1, 0, [2, 8, 8, 12, 12]), ("from", 1, 0, [2, 8, 8, 8, 0]),
                 ("from", 1, 0, [3, 15, 0, 15, 0, 15, 0]))[1:],
            [[2, 12, 4, 12, 8], [2, 12, 4, 8, 8], [2, 12, 4, 8, 8], [1, 8, 8], [1, 0, 0], [1, 15, 0]])

    def test_eight_patterns(self):
        eight = [8]
        for n in range(8):
            eight += [15, n]
        self.assertEqual(line(("put", 0, 0, send(0, 0, 4)), ("from", 0, 4, eight))[1:], [[1, 8, 0]])

    def test_dropped_and_hole_come_from_nowhere(self):
        self.assertEqual(
            line(("put", 0, 0, drop(1, 1)), *[("from", 0, port, [1, 0, 0]) for port in range(6)])[1:], [[0]] * 6)

    def test_each_port(self):
        rules = rules_of(*[send(7, port, port, 4, 4) for port in range(6)])
        self.assertEqual(
            line(("wide", 3), ("table", 1, rules), *[("from", 1, port, [1, 7, 4 + port % 4]) for port in range(6)])[2:],
            [[1, 7, port] for port in range(6)])

    def test_widths_at_both_ends(self):
        self.assertEqual(
            line(("wide", 1), ("put", 0, 0, send(0, 0, 0, 1, 1)), ("from", 0, 0, [1, 1, 1]), ("from", 0, 0, [1, 1, 0]),
                 ("from", 0, 0, [1, 2, 0]))[2:],
            [[1, 0, 0], [0], [-1]])
        self.assertEqual(
            line(("wide", 7), ("put", 0, 0, send(0, 0, 0, 64, 64)), ("from", 0, 0, [1, 127, 127]),
                 ("from", 0, 0, [1, 127, 63]), ("from", 0, 0, [1, 128, 0]))[2:],
            [[1, 63, 63], [0], [-1]])

    def test_not_patterns(self):
        for name, patterns in NOT_PATTERNS:
            with self.subTest(name):
                self.assertEqual(line(("table", 0, EXAMPLE), ("from", 0, 1, patterns), ("shown", 0))[1:],
                                 [[-1], EXAMPLE])

    def test_not_a_port(self):
        for port in (-HUGE, -2, -1, 6, 7, HUGE):
            for patterns in ([1, 0, 0], [0], []):
                with self.subTest(port=port, patterns=patterns):
                    self.assertEqual(line(("table", 0, EXAMPLE), ("from", 0, port, patterns), ("shown", 0))[1:],
                                     [[-3], EXAMPLE])


class Why(unittest.TestCase):

    def test_several_rules_ahead(self):
        rules = rules_of(drop(8, 8), send(7, 2, 0), drop(12, 0), send(1, 0, 5), drop(0, 0), drop(0, 0))
        self.assertEqual(
            line(("table", 0, rules), ("why", 0, 8), ("why", 0, 2), ("why", 0, 1), ("why", 0, 4), ("why", 0, 5))[1:],
            [[0], [1, 3], [2, 3, 1], [3, 3, 2, 2], [4, 3, 2, 2, 0]])

    def test_the_highest_bit_that_is_otherwise(self):
        for told, ones, header, bit in ((15, 0, 15, 3), (15, 0, 7, 2), (15, 0, 3, 1), (15, 0, 1, 0), (15, 15, 0, 3),
                                        (15, 15, 8, 2), (15, 9, 1, 3), (15, 9, 15, 2), (5, 4, 3, 2), (5, 4, 15, 0),
                                        (3, 1, 14, 1), (1, 1, 14, 0)):
            with self.subTest(told=told, ones=ones, header=header):
                self.assertEqual(last(("put", 0, 0, drop(told, ones)), ("put", 0, 1, drop(0, 0)), ("why", 0, header)),
                                 [1, bit])

    def test_none_counts(self):
        rules = rules_of(drop(8, 8), send(4, 4, 0), drop(2, 2), send(1, 1, 5))
        self.assertEqual(line(("table", 0, rules), ("why", 0, 0), ("why", 0, 1))[1:], [[4, 3, 2, 1, 0], [3, 3, 2, 1]])

    def test_all_eight_and_none_counts(self):
        rules = rules_of(*[drop(127, 2 ** (n % 7)) for n in range(8)])
        self.assertEqual(line(("wide", 7), ("table", 1, rules), ("why", 1, 0), ("why", 1, 64))[2:],
                         [[8, 0, 1, 2, 3, 4, 5, 6, 0], [6, 6, 6, 6, 6, 6, 6]])

    def test_the_first_counts(self):
        self.assertEqual(last(("put", 0, 0, drop(0, 0)), ("why", 0, 15)), [0])

    def test_an_empty_table(self):
        self.assertEqual(line(("why", 0, 0), ("why", 1, 15)), [[0], [0]])

    def test_headers_at_both_ends(self):
        for width in (1, 4, 7):
            with self.subTest(width=width):
                highest = 2 ** width - 1
                self.assertEqual(
                    line(("wide", width), ("put", 0, 0, drop(highest, 0)), ("why", 0, highest), ("why", 0, 0),
                         ("put", 0, 0, drop(highest, highest)), ("why", 0, highest), ("why", 0, 0))[2:],
                    [[1, width - 1], [0], [2], [0], [1, width - 1]])

    def test_not_a_header(self):
        for width in (1, 4, 7):
            for header in (-HUGE, -1, 2 ** width, 2 ** width + 1, HUGE):
                with self.subTest(width=width, header=header):
                    self.assertEqual(
                        line(("wide", width), ("why", 0, header), ("put", 0, 0, drop(1, 1)), ("why", 0, header),
                             ("shown", 0))[1:],
                        [[-3], [1], [-3], [1, 1, 1, 0]])


class Counts(unittest.TestCase):

    def test_what_rules_ahead_leave(self):
        rules = rules_of(drop(12, 4), send(4, 4, 0), drop(4, 4), send(3, 3, 5, 3, 0))
        self.assertEqual(last(("table", 0, rules), ("counts", 0)), [4, 4, 4, 0, 2, 6])

    def test_an_empty_table(self):
        for width in range(1, 8):
            with self.subTest(width=width):
                self.assertEqual(last(("wide", width), ("counts", 1)), [0, 2 ** width])

    def test_no_hole(self):
        self.assertEqual(last(("table", 1, EXAMPLE), ("counts", 1)), [3, 8, 4, 4, 0])

    def test_eight_rules(self):
        rules = rules_of(*[drop(127, n) for n in range(7)], send(64, 64, 5))
        self.assertEqual(last(("wide", 7), ("table", 0, rules), ("counts", 0)), [8, 1, 1, 1, 1, 1, 1, 1, 64, 57])

    def test_one_bit(self):
        self.assertEqual(last(("wide", 1), ("table", 0, rules_of(drop(1, 1), drop(1, 1))), ("counts", 0)), [2, 1, 0, 1])

    def test_nothing_is_changed(self):
        self.assertEqual(
            line(("table", 0, EXAMPLE), ("counts", 0), ("why", 0, 0), ("from", 0, 1, [1, 0, 0]), ("shown", 0),
                 ("shown", 1))[4:],
            [EXAMPLE, [0]])


class AgainstTheSecondTelling(unittest.TestCase):

    def told_from(self, rules, port, patterns, width):
        headers = []
        for header, outcome in enumerate(outcomes(rules, width)):
            if outcome[:2] == [2, port]:
                if any(all_have_bits(outcome[2], told, ones, width) for told, ones in patterns):
                    headers.append(header)
        return told_set(headers, width)

    def told_why(self, rules, header, width):
        bits = []
        for rule in rules:
            if all_have_bits(header, rule[0], rule[1], width):
                break
            unlike = [b for b in range(width) if not all_have_bits(header, rule[0] & 1 << b, rule[1] & 1 << b, width)]
            bits.append(max(unlike))
        return [len(bits)] + bits

    def told_counts(self, rules, width):
        counting = [does(rules, header, width)[1:2] for header in range(2 ** width)]
        return [len(rules)] + [counting.count([number]) for number in range(len(rules))] + [counting.count([])]

    def check(self, source, rules, width):
        calls = [("wide", width), ("table", 0, rules_of(*rules)), ("counts", 0)]
        wanted = [[0], [len(rules)], self.told_counts(rules, width)]
        for port in range(6):
            patterns = [rule[:2] for rule in some_rules(source, width)]
            calls.append(("from", 0, port, rules_of(*patterns)))
            wanted.append(self.told_from(rules, port, patterns, width))
        for header in range(0, 2 ** width, 1 + 2 ** width // 30):
            calls.append(("why", 0, header))
            wanted.append(self.told_why(rules, header, width))
        with self.subTest(width=width, rules=rules):
            self.assertEqual(line(*calls), wanted)

    def test_tables_of_every_width(self):
        source = random.Random(7)
        for width in range(1, 8):
            for _ in range(20):
                self.check(source, some_rules(source, width), width)
                self.check(source, alike_rules(source, width), width)


if __name__ == "__main__":
    unittest.main()
