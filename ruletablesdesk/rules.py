"""Rules: how numbers tell them, and what becomes of headers by them."""

MOST_RULES = 8
MOST_PATTERNS = 8
PORTS = 6

# The sort of an outcome; that of a sent header is SENT plus the port.
HOLE = 0
DROPPED = 1
SENT = 2


def matches_pattern(header, told, ones):
    return header & told == ones


class Rule:
    """A pattern and an action, the action kept as its numbers."""

    def __init__(self, numbers):
        self.told = numbers[0]
        self.ones = numbers[1]
        self.action = numbers[2:]

    def matches(self, header):
        return matches_pattern(header, self.told, self.ones)

    def highest_unlike(self, header):
        """The highest bit that its pattern tells and that's otherwise in a header that doesn't match it."""
        unlike = (header & self.told) ^ self.ones
        return unlike.bit_length() - 1

    def outcome(self, header):
        """What becomes of a header for which it counts: the sort, then, if it's sent, the header as which."""
        if self.action == [0]:
            return [DROPPED]
        told = self.action[1]
        ones = self.action[2]
        return [SENT + self.action[3], header - (header & told) + ones]

    def as_numbers(self):
        return [self.told, self.ones] + self.action


def is_port(number):
    return 0 <= number < PORTS


def within_bits(number, width):
    """Whether it's a header of that many bits; worths of bits, put together, are bounded likewise."""
    return 0 <= number < 1 << width


def has_rule(rules, number):
    return 0 <= number < len(rules)


def pattern_stands(numbers, start, width):
    """Whether a whole pattern (or rewrite) of that many bits stands at start."""
    if start + 2 > len(numbers):
        return False
    told = numbers[start]
    ones = numbers[start + 1]
    return within_bits(told, width) and told & ones == ones


def read_patterns(numbers, width):
    """The patterns that are told whole by numbers, or None if they aren't."""
    if not numbers or not 0 <= numbers[0] <= MOST_PATTERNS or len(numbers) != 1 + 2 * numbers[0]:
        return None
    patterns = []
    for start in range(1, len(numbers), 2):
        if not pattern_stands(numbers, start, width):
            return None
        patterns.append((numbers[start], numbers[start + 1]))
    return patterns


def rule_size(numbers, start, width):
    """How many numbers the rule at start has, or 0 if no whole rule stands there."""
    if not pattern_stands(numbers, start, width):
        return 0
    action = numbers[start + 2:start + 3]
    if action == [0]:
        return 3
    if action != [1] or not pattern_stands(numbers, start + 3, width):
        return 0
    if start + 6 > len(numbers) or not is_port(numbers[start + 5]):
        return 0
    return 6


def read_rules(numbers, width):
    """The rules of a whole table that's told by numbers, or None if it isn't one."""
    if not numbers or not 0 <= numbers[0] <= MOST_RULES:
        return None
    rules = []
    start = 1
    while len(rules) < numbers[0]:
        size = rule_size(numbers, start, width)
        if size == 0:
            return None
        rules.append(Rule(numbers[start:start + size]))
        start += size
    if start != len(numbers):
        return None
    return rules


def read_rule(numbers, width):
    """The one whole rule that's told by numbers, or None if it isn't one."""
    rules = read_rules([1] + numbers, width)
    if rules is None:
        return None
    return rules[0]


def rules_as_numbers(rules):
    numbers = [len(rules)]
    for rule in rules:
        numbers.extend(rule.as_numbers())
    return numbers


def counting_rule(rules, header):
    """The number of the first rule that the header matches, or None if there's none."""
    for number, rule in enumerate(rules):
        if rule.matches(header):
            return number
    return None


def counting_rules(rules, width):
    """The number of the rule that counts for each header (or None), by the header."""
    return [counting_rule(rules, header) for header in range(1 << width)]


def own_headers(rules, number, width):
    """For each header whether this rule counts for it, by the header."""
    return [counting == number for counting in counting_rules(rules, width)]


def outcome_at(rules, header):
    number = counting_rule(rules, header)
    if number is None:
        return [HOLE]
    return rules[number].outcome(header)


def outcomes_at(rules, width):
    """The outcome of each header, by the header."""
    return [outcome_at(rules, header) for header in range(1 << width)]
