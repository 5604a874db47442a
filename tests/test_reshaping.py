"""The calls idle, spare, turn, small and apart: rules that can go, and rules in another shape."""

import random
import unittest

from tests.lines import EXAMPLE, HUGE, alike_rules, does, drop, last, line, outcomes, rules_of, send, some_rules
from tests.lines import told_set


def text_of(rule, w):
    """A rule's pattern as a text, the highest bit first, with - for a bit that it doesn't tell."""
    marks = []
    for b in range(w):
        marks.append(str(rule[1] >> b & 1) if rule[0] >> b & 1 else "-")
    return "".join(reversed(marks))


def rule_of_text(text, action):
    told = int("".join("0" if mark == "-" else "1" for mark in text), 2)
    ones = int(text.replace("-", "0"), 2)
    return [told, ones] + action


def joined(first, second, w):
    """The rule that stands for two that differ in one bit, or None."""
    left = text_of(first, w)
    right = text_of(second, w)
    places = [n for n in range(w) if left[n] != right[n]]
    if first[2:] != second[2:] or len(places) != 1 or "-" in (left[places[0]], right[places[0]]):
        return None
    return rule_of_text(left[:places[0]] + "-" + left[places[0] + 1:], first[2:])


def told_spare(rules, w):
    found = []
    for number in range(len(rules)):
        rest = list(rules)
        rest.pop(number)
        if outcomes(rest, w) == outcomes(rules, w):
            found.append(number)
    return found


def told_small(rules, w):
    """The steps by which the rules are made smaller, and what they are then."""
    spare = told_spare(rules, w)
    if spare:
        steps, smaller = told_small([rule for number, rule in enumerate(rules) if number != spare[0]], w)
        return [[0, spare[0]]] + steps, smaller
    for i in range(len(rules)):
        for j in range(i + 1, len(rules)):
            one = joined(rules[i], rules[j], w)
            if one is not None:
                rest = list(rules)
                rest[i] = one
                rest.pop(j)
                if outcomes(rest, w) == outcomes(rules, w):
                    steps, smaller = told_small(rest, w)
                    return [[1, i, j]] + steps, smaller
    return [], rules


class Idle(unittest.TestCase):

    def test_none(self):
        self.assertEqual(line(("idle", 0), ("table", 1, EXAMPLE), ("idle", 1)), [[0], [3], [0]])

    def test_behind_one_and_behind_several(self):
        rules = rules_of(drop(8, 8), send(12, 12, 0), drop(8, 0), send(0, 0, 5), send(15, 15, 0))
        self.assertEqual(last(("table", 0, rules), ("idle", 0)), [3, 1, 3, 4])

    def test_one_that_counts_for_one_header_is_not(self):
        rules = rules_of(drop(14, 14), drop(12, 8), drop(12, 0), drop(12, 4), drop(8, 8))
        self.assertEqual(last(("table", 0, rules), ("idle", 0)), [0])
        rules = rules_of(drop(14, 14), drop(14, 12), drop(12, 8), drop(8, 8))
        self.assertEqual(last(("table", 0, rules), ("idle", 0)), [1, 3])

    def test_a_spare_one_that_counts_is_not(self):
        self.assertEqual(
            line(("table", 0, rules_of(drop(8, 8), drop(0, 0))), ("idle", 0), ("spare", 0)), [[2], [0], [1, 0]])

    def test_all_behind_the_first(self):
        rules = rules_of(send(0, 0, 5), *[send(127, n, n % 6) for n in range(7)])
        self.assertEqual(last(("wide", 7), ("table", 1, rules), ("idle", 1)), [7, 1, 2, 3, 4, 5, 6, 7])


class Spare(unittest.TestCase):

    def test_none(self):
        self.assertEqual(line(("spare", 0), ("table", 1, EXAMPLE), ("spare", 1)), [[0], [3], [0]])

    def test_idle_ones(self):
        rules = rules_of(drop(8, 8), send(12, 12, 0), send(8, 0, 5), drop(0, 0))
        self.assertEqual(last(("table", 0, rules), ("spare", 0)), [2, 1, 3])

    def test_each_by_itself(self):
        rules = rules_of(drop(8, 8), drop(8, 8), send(8, 0, 0), send(8, 0, 0))
        self.assertEqual(last(("table", 0, rules), ("spare", 0)), [4, 0, 1, 2, 3])

    def test_by_what_stands_behind(self):
        rules = rules_of(send(12, 4, 3), drop(14, 14), send(12, 12, 3), send(0, 0, 3))
        self.assertEqual(last(("table", 0, rules), ("spare", 0)), [2, 0, 2])

    def test_hole_and_dropped_are_unlike(self):
        self.assertEqual(last(("put", 0, 0, drop(0, 0)), ("spare", 0)), [0])

    def test_by_the_header_that_is_sent_and_not_by_the_numbers(self):
        rules = rules_of(send(8, 8, 1, 8, 8), send(12, 4, 1, 1, 1), send(13, 1, 1, 1, 1), send(0, 0, 1))
        self.assertEqual(last(("table", 0, rules), ("spare", 0)), [2, 0, 2])

    def test_another_port_alone(self):
        rules = rules_of(send(8, 8, 1), send(12, 4, 2), send(0, 0, 2))
        self.assertEqual(last(("table", 0, rules), ("spare", 0)), [1, 1])

    def test_widths_at_both_ends(self):
        self.assertEqual(last(("wide", 1), ("table", 0, rules_of(drop(1, 0), drop(1, 1), drop(0, 0))), ("spare", 0)),
                         [3, 0, 1, 2])
        rules = rules_of(*[send(127, n, 0) for n in range(7)], send(0, 0, 0, 6, 6))
        self.assertEqual(last(("wide", 7), ("table", 0, rules), ("spare", 0)), [1, 6])


class Turn(unittest.TestCase):

    def test_apart_from_one_another(self):
        self.assertEqual(line(("table", 0, EXAMPLE), ("turn", 0, 0), ("turn", 0, 1))[1:], [[1], [0]])

    def test_overlapping(self):
        self.assertEqual(last(("table", 0, rules_of(drop(8, 8), send(1, 1, 0))), ("turn", 0, 0)), [0])
        self.assertEqual(last(("table", 0, rules_of(drop(8, 8), drop(1, 1))), ("turn", 0, 0)), [1])

    def test_where_both_match_another_counts(self):
        rules = rules_of(drop(9, 9), send(8, 8, 0), send(1, 1, 5))
        self.assertEqual(line(("table", 1, rules), ("turn", 1, 0), ("turn", 1, 1))[1:], [[0], [1]])

    def test_where_both_match_they_make_the_same(self):
        rules = rules_of(send(8, 8, 2, 1, 1), send(1, 1, 2), send(0, 0, 2))
        self.assertEqual(line(("table", 0, rules), ("turn", 0, 0), ("turn", 0, 1))[1:], [[1], [1]])
        rules = rules_of(send(8, 8, 2, 1, 1), send(1, 0, 2), send(0, 0, 2))
        self.assertEqual(line(("table", 0, rules), ("turn", 0, 0), ("turn", 0, 1))[1:], [[0], [1]])

    def test_nothing_is_changed(self):
        self.assertEqual(
            line(("table", 0, EXAMPLE), ("turn", 0, 0), ("shown", 0), ("turn", 0, 0), ("turn", 0, 1), ("shown", 0),
                 ("shown", 1)),
            [[3], [1], EXAMPLE, [1], [0], EXAMPLE, [0]])

    def test_no_such_rule_with_one_behind_it(self):
        for number in (-HUGE, -3, -2, -1, 2, 3, 4, 8, HUGE):
            with self.subTest(number=number):
                self.assertEqual(line(("table", 0, EXAMPLE), ("turn", 0, number), ("shown", 0))[1:], [[-3], EXAMPLE])

    def test_none_of_an_empty_table_or_of_one_rule(self):
        self.assertEqual(
            line(("turn", 0, 0), ("turn", 1, -1), ("put", 0, 0, drop(0, 0)), ("turn", 0, 0), ("turn", 0, -1),
                 ("put", 0, 0, drop(0, 0)), ("turn", 0, 0), ("turn", 0, 1)),
            [[-3], [-3], [1], [-3], [-3], [2], [1], [-3]])

    def test_the_last_two_of_eight(self):
        rules = rules_of(*[send(127, n, 5) for n in range(7)], drop(127, 6))
        self.assertEqual(
            line(("wide", 7), ("table", 0, rules), ("turn", 0, 5), ("turn", 0, 6), ("turn", 0, 7))[2:],
            [[1], [0], [-3]])

    def test_one_bit(self):
        self.assertEqual(
            line(("wide", 1), ("table", 0, rules_of(drop(1, 0), send(1, 1, 0), drop(0, 0))), ("turn", 0, 0),
                 ("turn", 0, 1))[2:],
            [[1], [0]])


class Small(unittest.TestCase):

    def check(self, width, rules, steps, smaller):
        self.assertEqual(
            line(("wide", width), ("table", 1, rules), ("small", 1), ("shown", 1), ("small", 1), ("shown", 1))[2:],
            [steps, smaller, [0], smaller])

    def test_nothing_to_do(self):
        self.check(4, [0], [0], [0])
        self.check(4, EXAMPLE, [0], EXAMPLE)
        self.check(1, rules_of(drop(1, 0)), [0], rules_of(drop(1, 0)))

    def test_spare_rules_are_taken_out_first_one_first(self):
        rules = rules_of(drop(8, 8), send(12, 12, 0), send(8, 0, 5), send(14, 14, 5), drop(15, 1))
        self.check(4, rules, [3, 0, 1, 0, 2, 0, 2], rules_of(drop(8, 8), send(8, 0, 5)))

    def test_what_is_spare_is_asked_anew_at_each_step(self):
        rules = rules_of(drop(8, 8), send(12, 12, 0), send(8, 0, 5), drop(0, 0), drop(15, 1))
        self.check(4, rules, [3, 0, 1, 0, 0, 0, 2], rules_of(send(8, 0, 5), drop(0, 0)))

    def test_of_two_alike_the_first_goes(self):
        rules = rules_of(send(8, 8, 1, 8, 8), send(8, 8, 1))
        self.check(4, rules, [1, 0, 0], rules_of(send(8, 8, 1)))

    def test_seven_steps(self):
        rules = rules_of(*[drop(127, n) for n in range(7)], drop(0, 0))
        self.check(7, rules, [7] + [0, 0] * 7, rules_of(drop(0, 0)))

    def test_a_pair_is_made_one(self):
        rules = rules_of(send(12, 8, 1, 3, 2), drop(12, 0), send(12, 12, 1, 3, 2))
        self.check(4, rules, [1, 1, 0, 2], rules_of(send(8, 8, 1, 3, 2), drop(12, 0)))

    def test_the_bit_is_told_no_more_whichever_stands_first(self):
        for bit in (1, 2, 4, 8):
            with self.subTest(bit=bit):
                one = rules_of(drop(15 - bit, 0))
                self.check(4, rules_of(drop(15, 0), drop(15, bit)), [1, 1, 0, 1], one)
                self.check(4, rules_of(drop(15, bit), drop(15, 0)), [1, 1, 0, 1], one)

    def test_one_stands_in_the_place_of_the_first(self):
        rules = rules_of(drop(15, 1), send(12, 0, 3), drop(12, 12), send(12, 4, 3), drop(12, 8))
        self.check(4, rules, [2, 1, 1, 3, 1, 2, 3], rules_of(drop(15, 1), send(8, 0, 3), drop(8, 8)))

    def test_pairs_by_the_first_of_them(self):
        rules = rules_of(drop(7, 0), drop(7, 6), drop(7, 7), drop(7, 1))
        self.check(3, rules, [2, 1, 0, 3, 1, 1, 2], rules_of(drop(6, 0), drop(6, 6)))

    def test_pairs_by_the_second_of_them(self):
        rules = rules_of(drop(7, 0), drop(7, 3), drop(7, 4), drop(7, 1))
        self.check(3, rules, [2, 1, 0, 2, 1, 1, 2], rules_of(drop(3, 0), drop(5, 1)))

    def test_pairs_of_what_was_made_one(self):
        rules = rules_of(send(3, 0, 5), send(3, 3, 5), send(3, 1, 5), send(3, 2, 5))
        self.check(2, rules, [3, 1, 0, 2, 1, 1, 2, 1, 0, 1], rules_of(send(0, 0, 5)))

    def test_unlike_actions_are_not_made_one(self):
        for first, second in ((drop(9, 8), send(9, 9, 0)), (send(9, 8, 0), send(9, 9, 1)),
                              (send(9, 8, 0), send(9, 9, 0, 8, 8)), (send(9, 8, 0, 2, 2), send(9, 9, 0, 2, 0))):
            with self.subTest(first=first, second=second):
                self.check(4, rules_of(first, second), [0], rules_of(first, second))

    def test_unlike_patterns_are_not_made_one(self):
        for first, second in (((8, 8), (12, 4)), ((3, 0), (3, 3)), ((7, 1), (7, 4)), ((8, 8), (4, 4)),
                              ((7, 0), (7, 7)), ((8, 8), (12, 0))):
            with self.subTest(first=first, second=second):
                rules = rules_of(drop(*first), drop(*second))
                self.check(4, rules, [0], rules)

    def test_not_made_one_over_a_rule_between_them(self):
        rules = rules_of(drop(12, 8), send(5, 5, 0), drop(12, 12))
        self.check(4, rules, [0], rules)

    def test_made_one_where_the_rule_between_them_is_hidden(self):
        rules = rules_of(drop(13, 13), drop(12, 8), send(5, 5, 0), drop(12, 12))
        self.check(4, rules, [2, 1, 1, 3, 0, 0], rules_of(drop(8, 8), send(5, 5, 0)))

    def test_the_next_pair_if_the_first_can_not(self):
        rules = rules_of(drop(12, 8), send(5, 5, 0), drop(12, 12), drop(12, 0))
        self.check(4, rules, [1, 1, 0, 3], rules_of(drop(4, 0), send(5, 5, 0), drop(12, 12)))

    def test_one_pair_and_then_one_spare(self):
        # The second rule is kept by the third alone, which the first will hide where it reaches so far.
        rules = rules_of(send(6, 0, 5), send(7, 2, 5), drop(3, 2), send(6, 2, 5))
        self.check(3, rules, [2, 1, 0, 3, 0, 1], rules_of(send(4, 0, 5), drop(3, 2)))

    def test_spare_rules_and_pairs_in_turns(self):
        rules = rules_of(send(6, 0, 5), send(7, 2, 5), drop(3, 2), send(6, 2, 5), drop(7, 0), drop(3, 0))
        self.check(3, rules, [4, 0, 4, 1, 0, 3, 0, 1, 1, 1, 2], rules_of(send(4, 0, 5), drop(1, 0)))

    def test_the_other_table_stays(self):
        rules = rules_of(drop(8, 8), drop(0, 0))
        self.assertEqual(
            line(("table", 0, rules), ("table", 1, rules), ("small", 0), ("shown", 0), ("shown", 1), ("other",))[2:],
            [[1, 0, 0], [1, 0, 0, 0], rules, [0, 0]])

    def test_what_comes_behind_it_is_of_the_smaller_table(self):
        rules = rules_of(drop(12, 12), drop(12, 8), send(0, 0, 2))
        self.assertEqual(
            line(("table", 0, rules), ("small", 0), ("counts", 0), ("does", 0, 9), ("does", 0, 1), ("take", 0, 2),
                 ("put", 0, 2, drop(0, 0)), ("idle", 0), ("small", 0), ("shown", 0))[1:],
            [[1, 1, 0, 1], [2, 8, 8, 0], [1, 0], [2, 1, 2, 1], [-3], [3], [1, 2], [1, 0, 2],
             rules_of(drop(8, 8), send(0, 0, 2))])


class Apart(unittest.TestCase):

    def test_rules_that_hide_one_another(self):
        rules = rules_of(drop(15, 9), send(8, 8, 1, 4, 4), drop(12, 12), send(0, 0, 5))
        self.assertEqual(
            line(("table", 0, rules), ("apart", 0), ("shown", 0))[1:],
            [rules_of(drop(15, 9), send(15, 8, 1, 4, 4), send(14, 10, 1, 4, 4), send(12, 12, 1, 4, 4), send(8, 0, 5)),
             rules])

    def test_the_example(self):
        self.assertEqual(last(("table", 0, EXAMPLE), ("apart", 0)),
                         rules_of(send(8, 8, 1), drop(12, 4), send(12, 0, 2, 4, 4)))

    def test_an_empty_table(self):
        self.assertEqual(last(("apart", 1)), [0])

    def test_in_the_set_s_form_and_not_as_it_was_told(self):
        rules = rules_of(drop(1, 0), drop(9, 9), send(0, 0, 0))
        self.assertEqual(last(("table", 1, rules), ("apart", 1)), rules_of(drop(1, 0), drop(9, 9), send(9, 1, 0)))
        self.assertEqual(last(("table", 1, rules_of(drop(9, 1), drop(1, 1))), ("apart", 1)),
                         rules_of(drop(9, 1), drop(9, 9)))

    def test_idle_rules_leave_nothing(self):
        self.assertEqual(last(("table", 0, rules_of(drop(0, 0), send(1, 1, 0), drop(2, 2))), ("apart", 0)),
                         rules_of(drop(0, 0)))

    def test_one_bit(self):
        self.assertEqual(
            last(("wide", 1), ("table", 0, rules_of(drop(1, 1), send(0, 0, 5, 1, 1))), ("apart", 0)),
            rules_of(drop(1, 1), send(1, 0, 5, 1, 1)))

    def test_more_than_eight_rules(self):
        rules = rules_of(drop(127, 0), drop(127, 127), send(0, 0, 5, 127, 1))
        parts = [drop(127, 0), drop(127, 127)]
        for lower in (0, 1, 3, 7, 15, 31):
            parts.append(send(127 - lower, lower + 1, 5, 127, 1))
        for lower in (31, 15, 7, 3, 1, 0):
            parts.append(send(127 - lower, 127 - lower - (lower + 1), 5, 127, 1))
        self.assertEqual(last(("wide", 7), ("table", 0, rules), ("apart", 0)), rules_of(*parts))


class AgainstTheSecondTelling(unittest.TestCase):

    def told_apart(self, rules, width):
        parts = []
        counting = [does(rules, header, width)[1:2] for header in range(2 ** width)]
        for number, rule in enumerate(rules):
            patterns = told_set([header for header, found in enumerate(counting) if found == [number]], width)
            for n in range(patterns[0]):
                parts.append(patterns[1 + 2 * n:3 + 2 * n] + rule[2:])
        return rules_of(*parts)

    def told_turn(self, rules, number, width):
        if number + 1 >= len(rules):
            return [-3]
        other = list(rules)
        other.insert(number, other.pop(number + 1))
        return [1 if outcomes(other, width) == outcomes(rules, width) else 0]

    def check(self, rules, width):
        counting = [does(rules, header, width)[1:2] for header in range(2 ** width)]
        idle = [number for number in range(len(rules)) if [number] not in counting]
        spare = told_spare(rules, width)
        steps, smaller = told_small(rules, width)
        turns = [("turn", 0, number) for number in range(9)]
        calls = [("wide", width), ("table", 0, rules_of(*rules)), ("idle", 0), ("spare", 0), ("apart", 0), *turns,
                 ("shown", 0), ("small", 0), ("shown", 0)]
        with self.subTest(width=width, rules=rules):
            self.assertEqual(
                line(*calls)[2:],
                [[len(idle)] + idle, [len(spare)] + spare, self.told_apart(rules, width)]
                + [self.told_turn(rules, number, width) for number in range(9)]
                + [rules_of(*rules), sum(steps, [len(steps)]), rules_of(*smaller)])
        return [step[0] for step in steps]

    def test_tables_of_every_width(self):
        source = random.Random(8)
        for width in range(1, 8):
            for _ in range(15):
                self.check(some_rules(source, width), width)
                self.check(alike_rules(source, width), width)

    def test_spare_rules_and_pairs_in_turns(self):
        source = random.Random(2)
        orders = [self.check(alike_rules(source, 3), 3) for _ in range(400)]
        for order in ([0, 1], [0, 1, 1], [0, 0, 1], [0, 1, 0]):
            self.assertTrue(order in orders, order)


if __name__ == "__main__":
    unittest.main()
