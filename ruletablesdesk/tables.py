"""The calls on two tables of rules, told and answered as lists of numbers.

Each call's function is handed the desk, the call's whole numbers and its row (empty, if it has none).
A table's number is known to be right by then. What's answered is a list; a refusal is one number below 0.
"""

from ruletablesdesk.headersets import set_as_numbers
from ruletablesdesk.reshaping import behind_step, can_change_places, idle_rules, rules_apart
from ruletablesdesk.reshaping import smaller_step, spare_rules
from ruletablesdesk.rules import DROPPED, HOLE, MOST_RULES, SENT
from ruletablesdesk.rules import counting_rule, counting_rules, has_rule, is_port, matches_pattern, outcomes_at
from ruletablesdesk.rules import own_headers, read_patterns, read_rule, read_rules, rules_as_numbers, within_bits


class Desk:
    """How many bits headers have, and the rules of the two tables."""

    def __init__(self):
        self.width = 4
        self.tables = [[], []]


def behind_count(found):
    return [len(found)] + found


def wide(desk, numbers, row):
    if not 1 <= numbers[0] <= 7:
        return [-1]
    desk.width = numbers[0]
    desk.tables = [[], []]
    return [0]


def table(desk, numbers, row):
    rules = read_rules(row, desk.width)
    if rules is None:
        return [-1]
    desk.tables[numbers[0]] = rules
    return [len(rules)]


def put(desk, numbers, row):
    rules = desk.tables[numbers[0]]
    place = numbers[1]
    if not 0 <= place <= len(rules):
        return [-3]
    rule = read_rule(row, desk.width)
    if rule is None:
        return [-1]
    if len(rules) == MOST_RULES:
        return [-5]
    rules.insert(place, rule)
    return [len(rules)]


def take(desk, numbers, row):
    rules = desk.tables[numbers[0]]
    if not has_rule(rules, numbers[1]):
        return [-3]
    rules.pop(numbers[1])
    return [len(rules)]


def shown(desk, numbers, row):
    return rules_as_numbers(desk.tables[numbers[0]])


def does(desk, numbers, row):
    rules = desk.tables[numbers[0]]
    header = numbers[1]
    if not within_bits(header, desk.width):
        return [-3]
    number = counting_rule(rules, header)
    if number is None:
        return [0]
    outcome = rules[number].outcome(header)
    if outcome[0] == DROPPED:
        return [1, number]
    return [2, number, outcome[0] - SENT, outcome[1]]


def own(desk, numbers, row):
    rules = desk.tables[numbers[0]]
    number = numbers[1]
    if not has_rule(rules, number):
        return [-3]
    return set_as_numbers(own_headers(rules, number, desk.width))


def hole(desk, numbers, row):
    outcomes = outcomes_at(desk.tables[numbers[0]], desk.width)
    return set_as_numbers([outcome[0] == HOLE for outcome in outcomes])


def to(desk, numbers, row):
    port = numbers[1]
    if not is_port(port):
        return [-3]
    outcomes = outcomes_at(desk.tables[numbers[0]], desk.width)
    return set_as_numbers([outcome[0] == SENT + port for outcome in outcomes])


def out(desk, numbers, row):
    port = numbers[1]
    if not is_port(port):
        return [-3]
    flags = [False] * (1 << desk.width)
    for outcome in outcomes_at(desk.tables[numbers[0]], desk.width):
        if outcome[0] == SENT + port:
            flags[outcome[1]] = True
    return set_as_numbers(flags)


def from_which(desk, numbers, row):
    port = numbers[1]
    if not is_port(port):
        return [-3]
    patterns = read_patterns(row, desk.width)
    if patterns is None:
        return [-1]
    flags = []
    for outcome in outcomes_at(desk.tables[numbers[0]], desk.width):
        by_port = outcome[0] == SENT + port
        flags.append(by_port and any([matches_pattern(outcome[1], told, ones) for told, ones in patterns]))
    return set_as_numbers(flags)


def idle(desk, numbers, row):
    return behind_count(idle_rules(desk.tables[numbers[0]], desk.width))


def spare(desk, numbers, row):
    return behind_count(spare_rules(desk.tables[numbers[0]], desk.width))


def turn(desk, numbers, row):
    rules = desk.tables[numbers[0]]
    number = numbers[1]
    if not has_rule(rules, number) or not has_rule(rules, number + 1):
        return [-3]
    return [int(can_change_places(rules, number, desk.width))]


def small(desk, numbers, row):
    rules = desk.tables[numbers[0]]
    steps = 0
    told = []
    step = smaller_step(rules, desk.width)
    while step:
        rules = behind_step(rules, step)
        steps += 1
        told.extend(step)
        step = smaller_step(rules, desk.width)
    desk.tables[numbers[0]] = rules
    return [steps] + told


def apart(desk, numbers, row):
    return rules_as_numbers(rules_apart(desk.tables[numbers[0]], desk.width))


def why(desk, numbers, row):
    header = numbers[1]
    if not within_bits(header, desk.width):
        return [-3]
    bits = []
    for rule in desk.tables[numbers[0]]:
        if rule.matches(header):
            break
        bits.append(rule.highest_unlike(header))
    return behind_count(bits)


def counts(desk, numbers, row):
    rules = desk.tables[numbers[0]]
    counting = counting_rules(rules, desk.width)
    sizes = [counting.count(number) for number in range(len(rules))]
    return behind_count(sizes) + [counting.count(None)]


def outcome_pairs(desk):
    """The outcomes of each header at table 0 and at table 1, by the header."""
    return list(zip(outcomes_at(desk.tables[0], desk.width), outcomes_at(desk.tables[1], desk.width)))


def other(desk, numbers, row):
    flags = [first != second for first, second in outcome_pairs(desk)]
    return [flags.count(True)] + set_as_numbers(flags)


def classes(desk, numbers, row):
    members = {}
    for header, pair in enumerate(outcome_pairs(desk)):
        if pair[0] != pair[1]:
            members.setdefault((pair[0][0], pair[1][0]), []).append(header)
    told = [len(members)]
    for sorts in sorted(members):
        headers = members[sorts]
        told.extend([sorts[0], sorts[1], len(headers), min(headers)])
    return told


# By the number of a call: its function, and how many whole numbers it has.
CALLS = {0: wide, 1: table, 2: put, 3: take, 4: shown, 5: does, 6: own, 7: hole, 8: to, 9: out,
         10: from_which, 11: idle, 12: spare, 13: turn, 14: small, 15: apart, 16: why, 17: counts,
         18: other, 19: classes}
NUMBERS = {0: 1, 1: 1, 2: 2, 3: 2, 4: 1, 5: 2, 6: 2, 7: 1, 8: 2, 9: 2,
           10: 2, 11: 1, 12: 1, 13: 2, 14: 1, 15: 1, 16: 2, 17: 1, 18: 0, 19: 0}
WITH_ROW = (1, 2, 10)
WITHOUT_TABLE = (0, 18, 19)


def answer_to(desk, call, numbers, row):
    if call not in WITHOUT_TABLE and numbers[0] not in (0, 1):
        return [-2]
    return CALLS[call](desk, numbers, row)


def answers(calls):
    """What the calls, one behind another on a new desk, answer: each answer behind how many numbers it has."""
    desk = Desk()
    told = []
    start = 0
    while start < len(calls):
        call = calls[start]
        end = start + 1 + NUMBERS[call]
        numbers = calls[start + 1:end]
        row = []
        if call in WITH_ROW:
            first = end + 1
            end = first + calls[end]
            row = calls[first:end]
        answer = answer_to(desk, call, numbers, row)
        told.append(len(answer))
        told.extend(answer)
        start = end
    return told
