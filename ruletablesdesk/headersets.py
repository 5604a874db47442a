"""Sets of headers, and the one form in which they're told."""


def patterns_of(flags):
    """The patterns of a set: flags has for each header, from 0 on, whether it's in the set."""
    if not any(flags):
        return []
    if len(flags) == 1:
        return [(0, 0)]
    # Half the headers there are is also what the highest bit is worth.
    half = len(flags) // 2
    with_zero = flags[:half]
    with_one = flags[half:]
    if with_zero == with_one:
        return patterns_of(with_zero)
    patterns = [(told + half, ones) for told, ones in patterns_of(with_zero)]
    patterns.extend([(told + half, ones + half) for told, ones in patterns_of(with_one)])
    return patterns


def set_as_numbers(flags):
    patterns = patterns_of(flags)
    numbers = [len(patterns)]
    for told, ones in patterns:
        numbers.append(told)
        numbers.append(ones)
    return numbers
