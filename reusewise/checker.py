"""Checks held code: that each name held is used up just once on each way, and each token likewise."""

from reusewise.errors import Unheld
from reusewise.uses import bits_of, bound, names_of, noted, together, used_up
from reusewise.walk import bodies_within, ways_on


def checked(code):
    owns = all_owns(code)
    for one in code[1]:
        check_def(owns, one)
    return True


def all_owns(code):
    owns = {}
    for one in code[1]:
        owns[one[0]] = one[2]
    return owns


# What is at hand at a place of a def: `names` tells of each name whether it is held or only lent,
# `tokens` of each token kept the number of names of the arm that keeps it.
class Hand:
    def __init__(self, def_name, names, tokens):
        self.def_name = def_name
        self.names = dict(names)
        self.tokens = dict(tokens)

    def insist(self, fits):
        if not fits:
            raise Unheld(self.def_name)

    def look_at(self, name):
        self.insist(name in self.names)

    def use_up(self, name):
        self.insist(self.names.get(name, False))
        self.names.pop(name)

    def bind(self, name):
        self.insist(name not in self.names)
        self.names[name] = True

    def keep(self, token, many):
        self.insist(token not in self.tokens)
        self.tokens[token] = many

    def use_up_token(self, token):
        self.insist(token in self.tokens)
        return self.tokens.pop(token)


def check_def(owns, one):
    left = [(one[3], Hand(one[0], dict(zip(one[1], one[2])), {}))]
    while len(left) > 0:
        pair = left.pop()
        left.extend(check_piece(owns, pair[0], pair[1]))


# Checks a body's outermost piece, and gives the bodies within, each with what is at hand there.
def check_piece(owns, body, hand):
    if body[0] == "case":
        return check_case(body, hand)
    if body[0] == "if":
        hand.look_at(body[1])
        return [(body[2], hand), (body[3], copied(hand))]
    if body[0] == "give":
        check_give(body, hand)
        return []
    if body[0] == "let":
        check_deed(owns, body[2], hand)
        hand.bind(body[1])
    elif body[0] == "hold":
        hand.look_at(body[2])
        hand.bind(body[1])
    elif body[0] == "drop":
        hand.use_up(body[1])
    else:
        hand.use_up_token(body[1])
    return [(body[-1], hand)]


def copied(hand):
    return Hand(hand.def_name, hand.names, hand.tokens)


def check_give(body, hand):
    hand.use_up(body[1])
    hand.insist(len(hand.tokens) == 0 and not any(hand.names.values()))


def check_deed(owns, deed, hand):
    ends = list(zip(names_of(deed), used_up(deed, owns)))
    # First what is used up, for it is at hand no more for what the same call lends.
    for name, end in ends:
        if end:
            hand.use_up(name)
    for name, end in ends:
        if not end:
            hand.look_at(name)
    if deed[0] == "func":
        hand.insist(all(owns[deed[1]]))
    if deed[0] == "make" and deed[3] != "":
        hand.insist(hand.use_up_token(deed[3]) == len(deed[2]))


def check_case(body, hand):
    hand.look_at(body[1])
    within = []
    for arm in body[2]:
        there = copied(hand)
        check_arm(body[1], arm, there)
        within.append((arm[4], there))
    return within


def check_arm(name, arm, hand):
    if arm[2] == "take":
        hand.use_up(name)
    for part in arm[1]:
        hand.bind(part)
    if arm[3] != "":
        hand.insist(arm[2] == "take" and len(arm[1]) > 0)
        hand.keep(arm[3], len(arm[1]))


def tight(code):
    owns = all_owns(code)
    return all([tight_def(owns, one) for one in code[1]])


def tight_def(owns, one):
    bits = bits_of(bound(one))
    held = together([param for param, own in zip(one[1], one[2]) if own], bits)
    left = [(one[3], noted(one[3], bits), held)]
    while len(left) > 0:
        place = left.pop()
        if not tight_place(place[0], place[1], place[2]):
            return False
        within = held_within(owns, bits, place[0], place[2])
        for body, note, names in zip(bodies_within(place[0]), place[1][1], within):
            left.append((body, note, names))
    return True


def tight_place(body, note, held):
    return body[0] in ("hold", "drop", "loose") or held & ~note[0] == 0


# The bits of the names held in each of the bodies right within.
def held_within(owns, bits, body, held):
    if body[0] == "case":
        return [held & ~taken_by(arm, bits[body[1]]) | together(arm[1], bits) for arm in body[2]]
    rest = held & ~together(spent_by(owns, body), bits)
    return [rest | together(way[0], bits) for way in ways_on(body)]


def taken_by(arm, bit):
    return bit if arm[2] == "take" else 0


def spent_by(owns, body):
    if body[0] == "let":
        return [name for name, end in zip(names_of(body[2]), used_up(body[2], owns)) if end]
    if body[0] == "drop":
        return [body[1]]
    return []
