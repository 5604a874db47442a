"""What the tests share: lines of calls by name, rules by name, and a second telling of what is asked for.

The second telling keeps to sets of headers and to the document's words, and shares no code with the program.
"""

from ruletablesdesk.tables import answers

NUMBER_OF = {"wide": 0, "table": 1, "put": 2, "take": 3, "shown": 4, "does": 5, "own": 6,
             "hole": 7, "to": 8, "out": 9, "from": 10, "idle": 11, "spare": 12, "turn": 13, "small": 14,
             "apart": 15, "why": 16, "counts": 17, "other": 18, "classes": 19}
HUGE = 10 ** 18

# The document's example, W being 4: the rules of table 0 and of table 1.
EXAMPLE = [3, 8, 8, 1, 0, 0, 1, 12, 4, 0, 0, 0, 1, 4, 4, 2]
EXAMPLE_WITHOUT_DROP = [2, 8, 8, 1, 0, 0, 1, 0, 0, 1, 4, 4, 2]


def as_numbers(calls):
    numbers = []
    for call in calls:
        numbers.append(NUMBER_OF[call[0]])
        for part in call[1:]:
            if isinstance(part, list):
                numbers.append(len(part))
                numbers.extend(part)
            else:
                numbers.append(part)
    return numbers


def split(told):
    found = []
    at = 0
    while at < len(told):
        size = told[at]
        if not 1 <= size <= len(told) - at - 1:
            raise AssertionError("no answer of so many numbers at %d: %r" % (at, told))
        found.append(told[at + 1:at + 1 + size])
        at += 1 + size
    return found


def line(*calls):
    """The answers to the calls, a list each."""
    told = answers(as_numbers(calls))
    for number in told:
        if type(number) is not int:
            raise AssertionError("not a whole number: %r" % (number,))
    found = split(told)
    if len(found) != len(calls):
        raise AssertionError("%d answers to %d calls" % (len(found), len(calls)))
    return found


def last(*calls):
    return line(*calls)[-1]


def drop(told, ones):
    return [told, ones, 0]


def send(told, ones, port, new_told=0, new_ones=0):
    return [told, ones, 1, new_told, new_ones, port]


def rules_of(*rules):
    numbers = [len(rules)]
    for rule in rules:
        numbers += rule
    return numbers


def some_rules(source, width):
    """As many rules as fit or fewer, of which many hide one another."""
    rules = []
    for _ in range(source.randrange(9)):
        told = source.randrange(2 ** width) & source.randrange(2 ** width)
        ones = source.randrange(2 ** width) & told
        if source.randrange(3) == 0:
            rules.append(drop(told, ones))
        else:
            new_told = source.randrange(2 ** width) & source.randrange(2 ** width)
            rules.append(send(told, ones, source.randrange(6), new_told, source.randrange(2 ** width) & new_told))
    return rules


def alike_rules(source, width):
    """As many rules as fit or fewer, of which many have one action and patterns that tell the same bits."""
    tolds = [source.randrange(2 ** width), 2 ** width - 1, source.randrange(2 ** width)]
    actions = [[0], [1, 0, 0, 4], [1, 1, 1, 4]][:source.randrange(1, 4)]
    rules = []
    for _ in range(source.randrange(9)):
        told = source.choice(tolds)
        rules.append([told, source.randrange(2 ** width) & told] + source.choice(actions))
    return rules


def told_patterns(headers, w):
    if not headers:
        return []
    if w == 0:
        return [(0, 0)]
    worth = 2 ** (w - 1)
    zero = {header for header in headers if not header & worth}
    one = {header - worth for header in headers if header & worth}
    if zero == one:
        return told_patterns(zero, w - 1)
    return ([(told + worth, ones) for told, ones in told_patterns(zero, w - 1)]
            + [(told + worth, ones + worth) for told, ones in told_patterns(one, w - 1)])


def told_set(headers, w):
    patterns = told_patterns(set(headers), w)
    numbers = [len(patterns)]
    for told, ones in patterns:
        numbers += [told, ones]
    return numbers


def all_have_bits(header, told, ones, w):
    for b in range(w):
        worth = 2 ** b
        if told // worth % 2 == 1 and header // worth % 2 != ones // worth % 2:
            return False
    return True


def rewritten(header, told, ones, w):
    made = 0
    for b in range(w):
        worth = 2 ** b
        source = ones if told // worth % 2 == 1 else header
        made += source // worth % 2 * worth
    return made


def does(rules, header, w):
    """What the call does answers, for rules that are lists of numbers."""
    for number, rule in enumerate(rules):
        if all_have_bits(header, rule[0], rule[1], w):
            if rule[2] == 0:
                return [1, number]
            return [2, number, rule[5], rewritten(header, rule[3], rule[4], w)]
    return [0]


def outcomes(rules, w):
    """The outcome of each header: [0], [1], or [2, port, header]."""
    told = [does(rules, header, w) for header in range(2 ** w)]
    return [answer[:1] + answer[2:] for answer in told]
