"""Tables in another shape: which rules can go, be made one or change places, and the rules apart.

Rules are a list in their order; what's given back is a new one, and the one handed in stays.
"""

from ruletablesdesk.headersets import patterns_of
from ruletablesdesk.rules import Rule
from ruletablesdesk.rules import counting_rules, outcomes_at, own_headers

# What a step does by which a table is made smaller.
TAKEN_OUT = 0
MADE_ONE = 1


def do_the_same(first, second, width):
    return outcomes_at(first, width) == outcomes_at(second, width)


def without_rule(rules, number):
    return rules[:number] + rules[number + 1:]


def turned(rules, number):
    """The rules with this one and the next one the other way round."""
    return rules[:number] + [rules[number + 1], rules[number]] + rules[number + 2:]


def made_one(rules, i, j):
    """The rules with i and j made one; these are alike but for one bit of their patterns."""
    bit = rules[i].ones ^ rules[j].ones
    rule = Rule([rules[i].told - bit, rules[i].ones & rules[j].ones] + rules[i].action)
    return rules[:i] + [rule] + rules[i + 1:j] + rules[j + 1:]


def idle_rules(rules, width):
    """The numbers of the rules that count for no header."""
    counting = counting_rules(rules, width)
    return [number for number in range(len(rules)) if number not in counting]


def spare_rules(rules, width):
    """The numbers of the rules without each of which the table does the same."""
    return [number for number in range(len(rules)) if do_the_same(rules, without_rule(rules, number), width)]


def can_change_places(rules, number, width):
    return do_the_same(rules, turned(rules, number), width)


def differ_in_one_bit(first, second):
    """Whether two rules have one action, and patterns that tell the same bits and differ in just one of them."""
    if first.action != second.action or first.told != second.told:
        return False
    unlike = first.ones ^ second.ones
    return unlike != 0 and unlike & (unlike - 1) == 0


def can_be_made_one(rules, i, j, width):
    return differ_in_one_bit(rules[i], rules[j]) and do_the_same(rules, made_one(rules, i, j), width)


def smaller_step(rules, width):
    """The next step by which the rules are made smaller, as numbers; or an empty list."""
    spares = spare_rules(rules, width)
    if spares:
        return [TAKEN_OUT, spares[0]]
    for i in range(len(rules)):
        for j in range(i + 1, len(rules)):
            if can_be_made_one(rules, i, j, width):
                return [MADE_ONE, i, j]
    return []


def behind_step(rules, step):
    """The rules as such a step leaves them."""
    if step[0] == TAKEN_OUT:
        return without_rule(rules, step[1])
    return made_one(rules, step[1], step[2])


def rules_apart(rules, width):
    """For each rule, in order, its action for each pattern of the set for which it counts."""
    parts = []
    for number, rule in enumerate(rules):
        for told, ones in patterns_of(own_headers(rules, number, width)):
            parts.append(Rule([told, ones] + rule.action))
    return parts
