"""Which names code uses and binds: plain bodies and, held ones alike."""

from reusewise.walk import ways_on, worked_out


def bound(one):
    found = {}
    left = [(one[1], one[-1])]
    while len(left) > 0:
        pair = left.pop()
        for name in pair[0]:
            found[name] = True
        for way in reversed(ways_on(pair[1])):
            left.append(way)
    return list(found)


def ahead(body, names):
    return noted(body, bits_of(names))[0]


# By doubling, for it may be asked of ever so many names.
def bits_of(names):
    bits = {}
    bit = 1
    for name in names:
        bits[name] = bit
        bit = bit + bit
    return bits


# The bits of these names, each once; one that has none is passed over.
def together(names, bits):
    found = 0
    for name in names:
        found = found | bits.get(name, 0)
    return found


# What is used ahead in a body and in each one within it: a pair of its bits and the list of such
# pairs of the bodies within.
def noted(body, bits):
    return worked_out(body, lambda task: begun_note(task, bits))


def begun_note(body, bits):
    ways = ways_on(body)
    return ([way[1] for way in ways], lambda notes: note_of(body, ways, notes, bits))


def note_of(body, ways, notes, bits):
    found = 0
    for way, note in zip(ways, notes):
        found = found | note[0] & ~together(way[0], bits)
    return (found | together(names_used(body), bits), notes)


# The names that a body's outermost piece uses. A drop is no use.
def names_used(body):
    if body[0] == "let":
        return names_of(body[2])
    if body[0] == "hold":
        return (body[2],)
    if body[0] in ("drop", "loose"):
        return ()
    return (body[1],)


# The names that a deed takes, from the left, g ahead of the others.
def names_of(deed):
    if deed[0] == "num":
        return ()
    if deed[0] == "op":
        return deed[2:]
    if deed[0] == "ask":
        return (deed[1],) + deed[2]
    return deed[2]


# The deed with these names, as a plain one: without a make's token.
def with_names(deed, names):
    if deed[0] == "num":
        return deed
    if deed[0] == "op":
        return deed[:2] + tuple(names)
    if deed[0] == "ask":
        return ("ask", names[0], tuple(names[1:]))
    return deed[:2] + (tuple(names),)


# For each of a deed's names whether it is used up there; else it is looked at, or lent.
def used_up(deed, owns):
    if deed[0] == "call":
        return owns[deed[1]]
    return tuple([deed[0] != "op" for name in names_of(deed)])
