"""Puts holds and drops into a program, and takes them out again."""

from reusewise.uses import bits_of, bound, names_of, noted, used_up, with_names
from reusewise.walk import only_one, worked_out


def held(program, owns):
    return (program[0], tuple([held_def(one, owns) for one in program[1]]))


def held_def(one, owns):
    putter = Putter(one, owns)
    params = [param for param, own in zip(one[1], owns[one[0]]) if own]
    begin = Place(one[2], noted(one[2], putter.bits), params)
    body = worked_out(begin, lambda place: begun_place(putter, place))
    return (one[0], one[1], tuple(owns[one[0]]), body)


# A place where a body begins: the body, what is used ahead in it, and the names held there.
class Place:
    def __init__(self, body, note, names):
        self.body = body
        self.note = note
        self.names = names


class Putter:
    def __init__(self, one, owns):
        self.owns = owns
        self.bits = bits_of(bound(one))
        self.many = 0

    # No name of a program has a point in it, so these are new.
    def new_name(self, name):
        self.many = self.many + 1
        many = self.many
        return f"{name}.{many}"

    def is_ahead(self, name, note):
        return note[0] & self.bits[name] != 0

    # The names that stand where these are used up: a free one itself, but only once, else new ones.
    # Gives them and the pairs of the holds for the new ones.
    def spent(self, names, free):
        stand = []
        pairs = []
        for name in names:
            if name in free and name not in stand:
                stand.append(name)
            else:
                stand.append(self.new_name(name))
                pairs.append((stand[-1], name))
        return (stand, pairs)


def begun_place(putter, place):
    drops = [name for name in place.names if not putter.is_ahead(name, place.note)]
    rest = [name for name in place.names if putter.is_ahead(name, place.note)]
    pair = begun_piece(putter, Place(place.body, place.note, rest))
    finish = pair[1]
    return (pair[0], lambda results: with_drops(drops, finish(results)))


def begun_piece(putter, place):
    body = place.body
    if body[0] == "let":
        return begun_let(putter, place)
    if body[0] == "case":
        return begun_case(putter, place)
    if body[0] == "if":
        within = [Place(way, note, place.names) for way, note in zip(body[2:], place.note[1])]
        return (within, lambda results: body[:2] + tuple(results))
    spending = putter.spent([body[1]], place.names)
    return ([], lambda results: with_holds(spending[1], ("give", spending[0][0])))


def begun_let(putter, place):
    body = place.body
    deed = body[2]
    ends = used_up(deed, putter.owns)
    spent = [name for name, end in zip(names_of(deed), ends) if end]
    lent = [name for name, end in zip(names_of(deed), ends) if not end]
    behind = place.note[1][0]
    free = [name for name in place.names if not putter.is_ahead(name, behind) and name not in lent]
    spending = putter.spent(spent, free)
    stay = [name for name in place.names if name not in spending[0]] + [body[1]]
    done = held_deed(deed, ends, spending[0])
    return (
        [Place(body[3], behind, stay)],
        lambda results: with_holds(spending[1], ("let", body[1], done, results[0])),
    )


# The deed with these names, in their order, at the places where it uses names up.
def held_deed(deed, ends, stand):
    names = []
    at = 0
    for name, end in zip(names_of(deed), ends):
        names.append(stand[at] if end else name)
        at = at + 1 if end else at
    other = with_names(deed, names)
    return other + ("",) if deed[0] == "make" else other


def begun_case(putter, place):
    body = place.body
    modes = []
    within = []
    for arm, note in zip(body[2], place.note[1]):
        takes = body[1] in place.names and not putter.is_ahead(body[1], note)
        modes.append("take" if takes else "look")
        stay = [name for name in place.names if not takes or name != body[1]]
        within.append(Place(arm[2], note, stay + list(arm[1])))
    return (within, lambda results: ("case", body[1], held_arms(body[2], modes, results)))


def held_arms(arms, modes, bodies):
    return tuple([(arm[0], arm[1], mode, "", body) for arm, mode, body in zip(arms, modes, bodies)])


def with_drops(names, body):
    for name in reversed(names):
        body = ("drop", name, body)
    return body


def with_holds(pairs, body):
    for pair in reversed(pairs):
        body = ("hold", pair[0], pair[1], body)
    return body


def plain(code):
    return (code[0], tuple([(one[0], one[1], plain_body(one[3])) for one in code[1]]))


def plain_body(body):
    return worked_out((body, {}), lambda task: begun_plain(task[0], task[1]))


# `stands` tells for each name that a hold bound what it stands for.
def begun_plain(body, stands):
    if body[0] == "hold":
        return ([(body[3], standing(stands, body[1], meant(body[2], stands)))], only_one)
    if body[0] in ("drop", "loose"):
        return ([(body[2], stands)], only_one)
    if body[0] == "let":
        done = plain_deed(body[2], stands)
        return ([(body[3], itself(stands, [body[1]]))], lambda results: ("let", body[1], done, results[0]))
    looked = meant(body[1], stands)
    if body[0] == "give":
        return ([], lambda results: ("give", looked))
    if body[0] == "if":
        return ([(body[2], stands), (body[3], stands)], lambda results: ("if", looked, results[0], results[1]))
    within = [(arm[4], itself(stands, arm[1])) for arm in body[2]]
    return (within, lambda results: ("case", looked, plain_arms(body[2], results)))


def meant(name, stands):
    return stands.get(name, name)


def standing(stands, name, other):
    changed = dict(stands)
    changed[name] = other
    return changed


# A name that is bound anew stands for itself again.
def itself(stands, names):
    changed = dict(stands)
    for name in names:
        changed.pop(name, None)
    return changed


def plain_deed(deed, stands):
    return with_names(deed, [meant(name, stands) for name in names_of(deed)])


def plain_arms(arms, bodies):
    return tuple([(arm[0], arm[1], body) for arm, body in zip(arms, bodies)])
