"""The calls that ask of one table: does, own, hole, to, out; and the form in which a set is told."""

import random
import unittest

from tests.lines import EXAMPLE, HUGE, does, drop, last, line, rules_of, send, some_rules, told_set


class Does(unittest.TestCase):

    def test_the_first_rule_that_matches_counts(self):
        rules = rules_of(send(3, 2, 0), drop(2, 2), send(2, 2, 5), drop(0, 0), send(0, 0, 1))
        self.assertEqual(
            line(("table", 0, rules), ("does", 0, 2), ("does", 0, 3), ("does", 0, 14), ("does", 0, 0))[1:],
            [[2, 0, 0, 2], [1, 1], [2, 0, 0, 14], [1, 3]])

    def test_hole(self):
        self.assertEqual(line(("table", 1, rules_of(drop(15, 3))), ("does", 1, 3), ("does", 1, 2), ("does", 0, 3)),
                         [[1], [1, 0], [0], [0]])

    def test_a_pattern_that_tells_nothing_matches_all(self):
        for header in range(16):
            self.assertEqual(last(("put", 0, 0, drop(0, 0)), ("does", 0, header)), [1, 0])

    def test_rewrites(self):
        for told, ones, header, sent in ((0, 0, 6, 6), (15, 0, 15, 0), (15, 15, 0, 15), (5, 4, 3, 6), (5, 1, 12, 9),
                                         (8, 8, 8, 8), (8, 0, 7, 7)):
            with self.subTest(told=told, ones=ones, header=header):
                self.assertEqual(last(("put", 0, 0, send(0, 0, 3, told, ones)), ("does", 0, header)),
                                 [2, 0, 3, sent])

    def test_ports_at_both_ends(self):
        rules = rules_of(send(1, 0, 0), send(1, 1, 5))
        self.assertEqual(line(("table", 0, rules), ("does", 0, 14), ("does", 0, 15))[1:], [[2, 0, 0, 14], [2, 1, 5, 15]])

    def test_the_eighth_rule(self):
        rules = rules_of(*[drop(127, n) for n in range(7)], send(127, 127, 5, 127, 0))
        self.assertEqual(line(("wide", 7), ("table", 0, rules), ("does", 0, 127), ("does", 0, 126))[2:],
                         [[2, 7, 5, 0], [0]])

    def test_headers_at_both_ends(self):
        for width in range(1, 8):
            with self.subTest(width=width):
                highest = 2 ** width - 1
                self.assertEqual(
                    line(("wide", width), ("put", 0, 0, drop(highest, highest)), ("put", 0, 0, send(highest, 0, 4)),
                         ("does", 0, highest), ("does", 0, 0))[3:],
                    [[1, 1], [2, 0, 4, 0]])

    def test_not_a_header(self):
        for width in (1, 4, 7):
            for header in (-HUGE, -1, 2 ** width, 2 ** width + 1, HUGE):
                with self.subTest(width=width, header=header):
                    self.assertEqual(
                        line(("wide", width), ("put", 0, 0, drop(0, 0)), ("does", 0, header), ("shown", 0))[2:],
                        [[-3], [1, 0, 0, 0]])


class Own(unittest.TestCase):

    def test_what_rules_ahead_leave(self):
        rules = rules_of(drop(12, 4), drop(4, 4), send(4, 4, 0), drop(0, 0))
        self.assertEqual(
            line(("table", 0, rules), ("own", 0, 0), ("own", 0, 1), ("own", 0, 2), ("own", 0, 3))[1:],
            [[1, 12, 4], [1, 12, 12], [0], [1, 4, 0]])

    def test_all_headers(self):
        self.assertEqual(last(("put", 1, 0, drop(0, 0)), ("own", 1, 0)), [1, 0, 0])

    def test_one_rule_of_two_that_do_the_same(self):
        rules = rules_of(drop(1, 0), drop(1, 1))
        self.assertEqual(line(("table", 0, rules), ("own", 0, 0), ("own", 0, 1))[1:], [[1, 1, 0], [1, 1, 1]])

    def test_no_such_rule(self):
        for number in (-HUGE, -1, 3, 8, HUGE):
            with self.subTest(number=number):
                self.assertEqual(line(("table", 0, EXAMPLE), ("own", 0, number), ("shown", 0))[1:], [[-3], EXAMPLE])
        self.assertEqual(line(("own", 0, 0), ("own", 1, -1)), [[-3], [-3]])

    def test_the_last_of_eight(self):
        rules = rules_of(*[drop(127, n) for n in range(8)])
        self.assertEqual(line(("wide", 7), ("table", 0, rules), ("own", 0, 7), ("own", 0, 8))[2:],
                         [[1, 127, 7], [-3]])


class Hole(unittest.TestCase):

    def test_of_an_empty_table(self):
        for width in range(1, 8):
            self.assertEqual(last(("wide", width), ("hole", 1)), [1, 0, 0])

    def test_none(self):
        self.assertEqual(last(("put", 0, 0, drop(0, 0)), ("hole", 0)), [0])
        self.assertEqual(last(("put", 0, 0, send(0, 0, 0)), ("hole", 0)), [0])

    def test_dropped_is_no_hole(self):
        rules = rules_of(drop(8, 8), send(12, 4, 0))
        self.assertEqual(last(("table", 0, rules), ("hole", 0)), [1, 12, 0])


class To(unittest.TestCase):

    def test_of_several_rules(self):
        rules = rules_of(send(12, 12, 0), drop(8, 8), send(12, 4, 5), send(4, 0, 0, 15, 9))
        self.assertEqual(
            line(("table", 0, rules), ("to", 0, 0), ("to", 0, 5), ("to", 0, 1))[1:],
            [[2, 12, 0, 12, 12], [1, 12, 4], [0]])

    def test_neither_hole_nor_dropped(self):
        self.assertEqual(line(("put", 0, 0, drop(1, 1)), *[("to", 0, port) for port in range(6)])[1:], [[0]] * 6)

    def test_each_port(self):
        rules = rules_of(*[send(7, port, port) for port in range(6)])
        self.assertEqual(
            line(("wide", 3), ("table", 1, rules), *[("to", 1, port) for port in range(6)])[2:],
            [[1, 7, port] for port in range(6)])

    def test_not_a_port(self):
        for name in ("to", "out"):
            for port in (-HUGE, -2, -1, 6, 7, HUGE):
                with self.subTest(name=name, port=port):
                    self.assertEqual(line(("table", 0, EXAMPLE), (name, 0, port), ("shown", 0))[1:], [[-3], EXAMPLE])


class Out(unittest.TestCase):

    def test_headers_as_they_are_sent(self):
        rules = rules_of(send(12, 12, 0, 12, 0), send(12, 4, 5, 3, 1), send(8, 0, 0, 4, 0))
        self.assertEqual(
            line(("table", 0, rules), ("out", 0, 0), ("out", 0, 5), ("out", 0, 1))[1:],
            [[1, 12, 0], [1, 15, 5], [0]])

    def test_several_as_one(self):
        self.assertEqual(line(("put", 0, 0, send(0, 0, 2, 15, 6)), ("out", 0, 2), ("to", 0, 2))[1:],
                         [[1, 15, 6], [1, 0, 0]])

    def test_dropped_and_hole_come_out_nowhere(self):
        self.assertEqual(line(("put", 0, 0, drop(1, 1)), *[("out", 0, port) for port in range(6)])[1:], [[0]] * 6)

    def test_each_port(self):
        rules = rules_of(*[send(7, port, port, 4, 4) for port in range(6)])
        self.assertEqual(
            line(("wide", 3), ("table", 1, rules), *[("out", 1, port) for port in range(6)])[2:],
            [[1, 7, 4 + port % 4] for port in range(6)])


class FormOfASet(unittest.TestCase):

    def test_written_out(self):
        for headers, told in (([], [0]), ([0, 1, 2, 3], [1, 0, 0]), ([0, 1], [1, 2, 0]), ([2, 3], [1, 2, 2]),
                              ([0, 2], [1, 1, 0]), ([1, 3], [1, 1, 1]), ([3], [1, 3, 3]), ([0], [1, 3, 0]),
                              ([0, 3], [2, 3, 0, 3, 3]), ([1, 2], [2, 3, 1, 3, 2]), ([0, 1, 2], [2, 2, 0, 3, 2]),
                              ([1, 2, 3], [2, 3, 1, 2, 2]), ([0, 1, 3], [2, 2, 0, 3, 3])):
            with self.subTest(headers=headers):
                others = rules_of(*[drop(3, header) for header in range(4) if header not in headers])
                self.assertEqual(last(("wide", 2), ("table", 0, others), ("hole", 0)), told)

    def test_sets_of_one_bit(self):
        self.assertEqual(
            line(("wide", 1), ("hole", 0), ("put", 0, 0, drop(1, 0)), ("hole", 0), ("own", 0, 0),
                 ("put", 0, 1, drop(0, 0)), ("hole", 0))[1:],
            [[1, 0, 0], [1], [1, 1, 1], [1, 1, 0], [2], [0]])

    def test_every_set_of_three_bits(self):
        for members in range(256):
            headers = [header for header in range(8) if members >> header & 1]
            told = told_set(headers, 3)
            inside = rules_of(*[send(7, header, 5) for header in headers])
            outside = rules_of(*[drop(7, header) for header in range(8) if header not in headers])
            with self.subTest(headers=headers):
                self.assertEqual(
                    line(("wide", 3), ("table", 0, inside), ("to", 0, 5), ("out", 0, 5), ("table", 1, outside),
                         ("hole", 1)),
                    [[0], [len(headers)], told, told, [8 - len(headers)], told])


class AgainstTheSecondTelling(unittest.TestCase):

    def check(self, rules, width):
        outcomes = [does(rules, header, width) for header in range(2 ** width)]

        def those(wanted):
            return told_set([header for header, outcome in enumerate(outcomes) if wanted(outcome)], width)

        calls = [("wide", width), ("table", 1, rules_of(*rules)), ("hole", 1)]
        wanted = [[0], [len(rules)], those(lambda outcome: outcome == [0])]
        for number in range(len(rules)):
            calls.append(("own", 1, number))
            wanted.append(those(lambda outcome: outcome[0] != 0 and outcome[1] == number))
        for port in range(6):
            calls.append(("to", 1, port))
            wanted.append(those(lambda outcome: outcome[0] == 2 and outcome[2] == port))
            calls.append(("out", 1, port))
            sent = [outcome[3] for outcome in outcomes if outcome[0] == 2 and outcome[2] == port]
            wanted.append(told_set(sent, width))
        for header in range(0, 2 ** width, 1 + 2 ** width // 50):
            calls.append(("does", 1, header))
            wanted.append(outcomes[header])
        self.assertEqual(line(*calls), wanted)

    def test_tables_of_every_width(self):
        source = random.Random(145)
        for width in range(1, 8):
            for _ in range(40):
                rules = some_rules(source, width)
                with self.subTest(width=width, rules=rules):
                    self.check(rules, width)


if __name__ == "__main__":
    unittest.main()
