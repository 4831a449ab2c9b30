"""Plain values, and the lists of their parts."""

from reusewise.errors import NoValue
from reusewise.shapes import sizes


def is_whole(thing):
    return isinstance(thing, int) and not isinstance(thing, bool)


def in_bounds(number):
    return -10 ** 30 < number < 10 ** 30


# The list is gone through from its end: so the parts of a shape are there, the first one last, when
# its tag comes, and no depth fells it.
def grown(kinds, parts):
    if not isinstance(parts, list):
        raise NoValue()
    known_sizes = sizes(kinds)
    values = []
    for thing in reversed(parts):
        if isinstance(thing, str):
            values.append(shape(thing, known_sizes, values))
        elif is_whole(thing) and in_bounds(thing):
            values.append(thing)
        else:
            raise NoValue()
    if len(values) != 1:
        raise NoValue()
    return values[0]


# Takes its parts off the values.
def shape(tag, known_sizes, values):
    if tag not in known_sizes or known_sizes[tag] > len(values):
        raise NoValue()
    parts = [values.pop() for place in range(known_sizes[tag])]
    return (tag, tuple(parts))


def parts_of(value, most=100):
    return first_parts(value, most, lambda shape_value: shape_value)


# `shape_of` gives of what is no number a pair, its tag and parts. Only as many parts are gone to as
# are told, for a value may share its parts so often that they can't all be told.
def first_parts(value, most, shape_of):
    told = []
    left = [value]
    while len(left) > 0 and len(told) < most:
        one = left.pop()
        if is_whole(one):
            told.append(one)
        else:
            pair = shape_of(one)
            told.append(pair[0])
            for part in reversed(pair[1]):
                left.append(part)
    return told
