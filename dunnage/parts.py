"""Parts: tuples (top, bottom) in lowest terms, the bottom above nought."""


def common_measure(first, second):
    """The greatest number that goes into both, which are not both nought."""
    while second:
        first, second = second, first % second
    return abs(first)


def part(top, bottom):
    """The part of two numbers, the bottom not nought."""
    measure = common_measure(top, bottom)
    # The sign belongs to the top, so that one amount is written in one way only.
    if bottom < 0:
        measure = -measure
    return (top // measure, bottom // measure)


def plus(a, b):
    return part(a[0] * b[1] + b[0] * a[1], a[1] * b[1])


def minus(a, b):
    return part(a[0] * b[1] - b[0] * a[1], a[1] * b[1])


def times(a, b):
    return part(a[0] * b[0], a[1] * b[1])


def less(a, b):
    # Both bottoms are above nought, so multiplying by them turns no order round.
    return a[0] * b[1] < b[0] * a[1]


# Lowest terms cost far more than the sums themselves, so long sums go without them until something is told.


def raw_sum(pairs):
    """All pairs (top, bottom), the bottoms above nought, together: such a pair, not in lowest terms."""
    top, bottom = 0, 1
    for pair in pairs:
        if bottom % pair[1] == 0:
            top += pair[0] * (bottom // pair[1])
        else:
            top, bottom = top * pair[1] + pair[0] * bottom, bottom * pair[1]
    return (top, bottom)


def raw_product(a, b):
    return (a[0] * b[0], a[1] * b[1])


def opposite(a):
    return (-a[0], a[1])
