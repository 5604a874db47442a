"""The calls that change what is kept: wide, table, put, take; and shown."""

import unittest

from tests.lines import EXAMPLE, EXAMPLE_WITHOUT_DROP, HUGE, drop, last, line, rules_of, send

EIGHT = [drop(15, n) for n in range(8)]
NOT_RULES = [
    ("nothing", []),
    ("a pattern's half", [1]),
    ("no action", [1, 1]),
    ("bits out of width", [16, 0, 0]),
    ("bits out of width that are 1", [16, 16, 0]),
    ("negative bits", [-1, 0, 0]),
    ("negative ones", [1, -1, 0]),
    ("negative both", [-1, -1, 0]),
    ("negative ones within endless bits", [15, -16, 0]),
    ("ones that aren't told", [1, 2, 0]),
    ("ones that aren't told at all", [0, 1, 0]),
    ("more ones than told", [5, 7, 0]),
    ("huge bits", [HUGE, 0, 0]),
    ("huge ones", [0, HUGE, 0]),
    ("least bits", [-HUGE, 0, 0]),
    ("least ones", [0, -HUGE, 0]),
    ("action 2", [1, 1, 2]),
    ("action 2 as if sent", [1, 1, 2, 0, 0, 0]),
    ("action -1", [1, 1, -1]),
    ("action -1 as if sent", [1, 1, -1, 0, 0, 0]),
    ("huge action", [1, 1, HUGE]),
    ("more than a drop", [1, 1, 0, 0]),
    ("a drop and as much as sent has", [1, 1, 0, 0, 0, 0]),
    ("sent without more", [1, 1, 1]),
    ("half a rewrite", [1, 1, 1, 0]),
    ("no port", [1, 1, 1, 0, 0]),
    ("port -1", [1, 1, 1, 0, 0, -1]),
    ("port 6", [1, 1, 1, 0, 0, 6]),
    ("huge port", [1, 1, 1, 0, 0, HUGE]),
    ("least port", [1, 1, 1, 0, 0, -HUGE]),
    ("rewrite out of width", [1, 1, 1, 16, 0, 0]),
    ("rewrite's ones out of width", [1, 1, 1, 16, 16, 0]),
    ("rewrite's ones not told", [1, 1, 1, 4, 2, 0]),
    ("negative rewrite", [1, 1, 1, -1, 0, 0]),
    ("rewrite's negative ones", [1, 1, 1, 15, -16, 0]),
    ("huge rewrite", [1, 1, 1, HUGE, HUGE, 0]),
    ("more than sent has", [1, 1, 1, 0, 0, 0, 0]),
    ("sent, with all that fits", [1, 1, 1, 0, 0, 0, 0, 0, 0, 0]),
    ("two rules", [1, 1, 0, 1, 0, 0]),
]
NOT_TABLES = [
    ("nothing", []),
    ("fewer than none", [-1]),
    ("least count", [-HUGE]),
    ("huge count", [HUGE]),
    ("nine, and nothing", [9]),
    ("nine rules", rules_of(*EIGHT, drop(0, 0))),
    ("one told of none", [0] + drop(0, 0)),
    ("one number too many", [0, 0]),
    ("none told of one", [1]),
    ("one told of two", [2] + drop(0, 0)),
    ("two told of one", [1] + drop(0, 0) + drop(0, 0)),
    ("a rule behind eight", [8] + sum(EIGHT, []) + drop(0, 0)),
    ("seven told of eight", [8] + sum(EIGHT[:7], [])),
    ("the second rule cut", [2] + drop(0, 0) + [1, 1]),
    ("the second rule cut in its rewrite", [2] + drop(0, 0) + [1, 1, 1, 0]),
    ("the second rule cut ahead of its port", [2] + drop(0, 0) + [1, 1, 1, 0, 0]),
    ("a rule without a count", drop(1, 1)),
]


class Wide(unittest.TestCase):

    def test_each_width(self):
        for width in range(1, 8):
            with self.subTest(width=width):
                highest = 2 ** width - 1
                self.assertEqual(
                    line(("wide", width), ("does", 0, highest), ("does", 1, highest + 1), ("hole", 0),
                         ("put", 0, 0, drop(highest, highest)), ("put", 0, 0, drop(highest + 1, 0)),
                         ("put", 0, 0, send(0, 0, 0, highest + 1, 0)), ("own", 0, 0)),
                    [[0], [0], [-3], [1, 0, 0], [1], [-1], [-1], [1, highest, highest]])

    def test_refused(self):
        for number in (-HUGE, -1, 0, 8, 9, HUGE):
            with self.subTest(number=number):
                self.assertEqual(
                    line(("wide", 5), ("table", 0, EXAMPLE), ("table", 1, EXAMPLE_WITHOUT_DROP), ("wide", number),
                         ("shown", 0), ("shown", 1), ("does", 0, 31), ("does", 0, 32))[3:],
                    [[-1], EXAMPLE, EXAMPLE_WITHOUT_DROP, [2, 0, 1, 31], [-3]])

    def test_refused_at_the_beginning(self):
        self.assertEqual(line(("wide", 0), ("does", 0, 15), ("does", 0, 16)), [[-1], [0], [-3]])

    def test_both_tables_are_empty_from_then_on(self):
        for width in (1, 4, 7):
            with self.subTest(width=width):
                self.assertEqual(
                    line(("table", 0, EXAMPLE), ("table", 1, EXAMPLE_WITHOUT_DROP), ("wide", width), ("shown", 0),
                         ("shown", 1), ("put", 0, 0, drop(1, 0)), ("shown", 0), ("shown", 1))[2:],
                    [[0], [0], [0], [1], [1, 1, 0, 0], [0]])


class Table(unittest.TestCase):

    def test_how_many_rules(self):
        for count in range(9):
            with self.subTest(count=count):
                rules = rules_of(*EIGHT[:count])
                self.assertEqual(line(("table", 1, rules), ("shown", 1), ("shown", 0)), [[count], rules, [0]])

    def test_it_takes_the_place_of_what_was(self):
        self.assertEqual(
            line(("table", 0, EXAMPLE), ("table", 1, EXAMPLE_WITHOUT_DROP), ("table", 0, rules_of(drop(1, 1))),
                 ("shown", 0), ("shown", 1), ("table", 1, [0]), ("shown", 0), ("shown", 1)),
            [[3], [2], [1], [1, 1, 1, 0], EXAMPLE_WITHOUT_DROP, [0], [1, 1, 1, 0], [0]])

    def test_both_ends_of_what_fits(self):
        for width, highest in ((1, 1), (7, 127)):
            rules = rules_of(drop(0, 0), drop(highest, 0), drop(highest, highest), send(0, 0, 0),
                             send(highest, highest, 5, highest, highest), send(highest, 0, 0, highest, 0))
            with self.subTest(width=width):
                self.assertEqual(line(("wide", width), ("table", 0, rules), ("shown", 0)), [[0], [6], rules])

    def test_eight_of_the_longest_rules(self):
        rules = rules_of(*[send(127, 127 - n, n % 6, 127, n) for n in range(8)])
        self.assertEqual(line(("wide", 7), ("table", 1, rules), ("shown", 1)), [[0], [8], rules])

    def check_refused(self, rules):
        self.assertEqual(
            line(("table", 0, EXAMPLE), ("table", 1, EXAMPLE_WITHOUT_DROP), ("table", 0, rules), ("shown", 0),
                 ("shown", 1), ("does", 0, 15), ("does", 0, 16))[2:],
            [[-1], EXAMPLE, EXAMPLE_WITHOUT_DROP, [2, 0, 1, 15], [-3]])

    def test_refused_as_a_table(self):
        for name, rules in NOT_TABLES:
            with self.subTest(name):
                self.check_refused(rules)

    def test_refused_for_its_one_rule(self):
        for name, rule in NOT_RULES:
            with self.subTest(name):
                self.check_refused([1] + rule)

    def test_refused_for_its_last_rule(self):
        for name, rule in NOT_RULES:
            with self.subTest(name):
                self.check_refused([3] + drop(0, 0) + send(8, 0, 5) + rule)

    def test_refused_for_the_width(self):
        self.assertEqual(line(("wide", 1), ("table", 0, rules_of(drop(2, 0))), ("shown", 0)), [[0], [-1], [0]])
        self.assertEqual(last(("wide", 7), ("table", 0, rules_of(drop(128, 0)))), [-1])
        self.assertEqual(last(("wide", 7), ("table", 0, rules_of(send(0, 0, 0, 128, 128)))), [-1])


class Put(unittest.TestCase):

    def test_at_each_place(self):
        new = send(3, 1, 5, 12, 8)
        for place in range(4):
            with self.subTest(place=place):
                rules = [drop(1, 1), drop(2, 2), send(4, 0, 0)]
                told = rules_of(*rules)
                rules.insert(place, new)
                self.assertEqual(
                    line(("table", 1, told), ("table", 0, told), ("put", 1, place, new), ("shown", 1), ("shown", 0)),
                    [[3], [3], [4], rules_of(*rules), told])

    def test_into_an_empty_table(self):
        self.assertEqual(line(("put", 0, 0, drop(0, 0)), ("shown", 0), ("shown", 1)), [[1], [1, 0, 0, 0], [0]])

    def test_up_to_eight(self):
        calls = [("put", 0, n, EIGHT[n]) for n in range(8)]
        self.assertEqual(line(*calls, ("shown", 0)), [[n] for n in range(1, 9)] + [rules_of(*EIGHT)])

    def test_each_ahead_of_the_others(self):
        calls = [("put", 0, 0, rule) for rule in EIGHT]
        self.assertEqual(last(*calls, ("shown", 0)), rules_of(*EIGHT[::-1]))

    def check_refused(self, rules, place, rule, refusal):
        self.assertEqual(
            line(("table", 0, rules), ("table", 1, EXAMPLE), ("put", 0, place, rule), ("shown", 0), ("shown", 1),
                 ("does", 0, 16))[2:],
            [[refusal], rules, EXAMPLE, [-3]])

    def test_no_such_place(self):
        for place in (-HUGE, -1, 4, 8, HUGE):
            with self.subTest(place=place):
                self.check_refused(EXAMPLE, place, drop(0, 0), -3)
        self.check_refused([0], 1, drop(0, 0), -3)
        self.check_refused(rules_of(*EIGHT), 9, drop(0, 0), -3)

    def test_not_a_rule(self):
        for name, rule in NOT_RULES:
            with self.subTest(name):
                self.check_refused(EXAMPLE, 3, rule, -1)

    def test_full(self):
        for place in (0, 4, 8):
            with self.subTest(place=place):
                self.check_refused(rules_of(*EIGHT), place, send(0, 0, 5), -5)

    def test_full_no_more_once_one_is_taken(self):
        self.assertEqual(
            line(("table", 0, rules_of(*EIGHT)), ("put", 0, 8, drop(0, 0)), ("take", 0, 0), ("put", 0, 7, drop(0, 0)),
                 ("shown", 0)),
            [[8], [-5], [7], [8], rules_of(*EIGHT[1:], drop(0, 0))])

    def test_the_place_ahead_of_the_rule(self):
        self.check_refused(EXAMPLE, 4, [], -3)
        self.check_refused(EXAMPLE, -1, drop(16, 0), -3)

    def test_the_place_ahead_of_full(self):
        self.check_refused(rules_of(*EIGHT), 9, drop(0, 0), -3)
        self.check_refused(rules_of(*EIGHT), -1, [1], -3)

    def test_the_rule_ahead_of_full(self):
        for name, rule in NOT_RULES:
            with self.subTest(name):
                self.check_refused(rules_of(*EIGHT), 8, rule, -1)


class Take(unittest.TestCase):

    def test_each_rule(self):
        for number in range(8):
            with self.subTest(number=number):
                rest = EIGHT[:number] + EIGHT[number + 1:]
                self.assertEqual(
                    line(("table", 1, rules_of(*EIGHT)), ("table", 0, EXAMPLE), ("take", 1, number), ("shown", 1),
                         ("shown", 0)),
                    [[8], [3], [7], rules_of(*rest), EXAMPLE])

    def test_down_to_none(self):
        self.assertEqual(
            line(("table", 0, EXAMPLE), ("take", 0, 2), ("take", 0, 0), ("take", 0, 0), ("shown", 0), ("take", 0, 0)),
            [[3], [2], [1], [0], [0], [-3]])

    def test_no_such_rule(self):
        for number in (-HUGE, -3, -1, 3, 8, HUGE):
            with self.subTest(number=number):
                self.assertEqual(
                    line(("table", 0, EXAMPLE), ("table", 1, rules_of(*EIGHT)), ("take", 0, number), ("shown", 0),
                         ("shown", 1))[2:],
                    [[-3], EXAMPLE, rules_of(*EIGHT)])

    def test_none_of_an_empty_table(self):
        self.assertEqual(line(("take", 1, 0), ("take", 1, -1)), [[-3], [-3]])


class Shown(unittest.TestCase):

    def test_each_table(self):
        self.assertEqual(line(("table", 1, EXAMPLE), ("shown", 0), ("shown", 1)), [[3], [0], EXAMPLE])

    def test_the_same_rules_at_both_are_kept_apart(self):
        self.assertEqual(
            line(("table", 0, EXAMPLE), ("table", 1, EXAMPLE), ("take", 0, 1), ("shown", 0), ("shown", 1))[2:],
            [[2], EXAMPLE_WITHOUT_DROP, EXAMPLE])


if __name__ == "__main__":
    unittest.main()
