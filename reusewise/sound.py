"""Looks through a program and refuses what is met first that is not sound."""

from reusewise.errors import Lacking, Misfit, Twice, Unknown
from reusewise.shapes import kin, lacking, sizes


# What every def of the program may name.
class Known:
    def __init__(self, program):
        self.kinds = program[0]
        self.tag_sizes = sizes(program[0])
        self.param_counts = {}
        for one in program[1]:
            self.param_counts[one[0]] = len(one[1])


def sound(program):
    tags = []
    for kind in program[0]:
        tags.extend([pair[0] for pair in kind])
    with_bound(tags, {})
    with_bound([one[0] for one in program[1]], {})
    known = Known(program)
    for one in program[1]:
        look_through(known, one)
    return True


# The bodies still to be looked at are kept in a list, each with the names bound above it, the next
# of them last, so that no depth fells it.
def look_through(known, one):
    left = [(one[2], with_bound(one[1], {}))]
    while len(left) > 0:
        pair = left.pop()
        for within in reversed(looked_at(known, pair[0], pair[1])):
            left.append(within)


# A new dict, for names bound on one way are not bound on the way beside it.
def with_bound(names, above):
    names_bound = dict(above)
    for name in names:
        if name in names_bound:
            raise Twice(name)
        names_bound[name] = True
    return names_bound


def insist_known(names, known_ones):
    for name in names:
        if name not in known_ones:
            raise Unknown(name)


# Looks at a body's outermost piece, and gives the bodies within, each with the names bound above it.
def looked_at(known, body, above):
    if body[0] == "let":
        look_at_deed(known, body[2], above)
        return [(body[3], with_bound([body[1]], above))]
    insist_known([body[1]], above)
    if body[0] == "if":
        return [(body[2], above), (body[3], above)]
    if body[0] == "case":
        return looked_at_arms(known, body, above)
    return []


def look_at_deed(known, deed, above):
    if deed[0] == "op":
        insist_known(deed[2:], above)
    elif deed[0] == "ask":
        insist_known((deed[1],) + deed[2], above)
    elif deed[0] != "num":
        insist_known(deed[2], above)
        look_at_number(known, deed)


def look_at_number(known, deed):
    counts = known.tag_sizes if deed[0] == "make" else known.param_counts
    insist_known([deed[1]], counts)
    wanted = counts[deed[1]]
    fits = len(deed[2]) <= wanted if deed[0] == "func" else len(deed[2]) == wanted
    if not fits:
        raise Misfit(deed[1])


def looked_at_arms(known, body, above):
    arms = body[2]
    within = []
    tags = []
    for arm in arms:
        look_at_tag(known, arm, tags)
        tags.append(arm[0])
        within.append((arm[2], with_bound(arm[1], above)))
    absent = lacking(known.kinds, tags)
    if len(absent) > 0:
        raise Lacking(body[1], absent)
    return within


def look_at_tag(known, arm, tags_ahead):
    tag = arm[0]
    insist_known([tag], known.tag_sizes)
    if len(tags_ahead) > 0 and tag not in kin(known.kinds, tags_ahead[0]):
        raise Misfit(tag)
    if tag in tags_ahead:
        raise Twice(tag)
    if len(arm[1]) != known.tag_sizes[tag]:
        raise Misfit(tag)
