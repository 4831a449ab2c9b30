"""Finds which params the defs hold, and why."""

from reusewise.uses import ahead
from reusewise.walk import bodies_in


def owners(program):
    known = {}
    for row in reasons(program):
        known[(row[0], row[1])] = True
    found = {}
    for one in program[1]:
        found[one[0]] = tuple([(one[0], k) in known for k in range(len(one[1]))])
    return found


# The rows found so far are gone through from the first one on, and each param that is held because
# of a row's comes behind it.
def reasons(program):
    uses = all_uses(program)
    rows = own_rows(program, uses)
    known = {}
    for row in rows:
        known[(row[0], row[1])] = True
    at = 0
    while at < len(rows):
        held = (rows[at][0], rows[at][1])
        for row in uses.calls.get(held, []):
            if (row[0], row[1]) not in known:
                known[(row[0], row[1])] = True
                rows.append((row[0], row[1], ("called", held[0], held[1])))
        at = at + 1
    return rows


def own_rows(program, uses):
    rows = []
    for one in program[1]:
        for k in range(len(one[1])):
            reason = "handed" if one[0] in uses.handed else uses.found.get((one[0], k), "")
            if reason != "":
                rows.append((one[0], k, (reason,)))
    return rows


# How the defs use their params. `found` has for a def and a place the reason that the param has by
# itself, `calls` for a def called and a place the defs and places whose params are handed to it.
class Uses:
    def __init__(self):
        self.handed = {}
        self.found = {}
        self.calls = {}

    def add_reason(self, params, name, reason):
        if name in params:
            self.found[params[name]] = reason

    def add_call(self, params, deed):
        for j, name in enumerate(deed[2]):
            if name in params:
                self.calls.setdefault((deed[1], j), []).append(params[name])


def all_uses(program):
    uses = Uses()
    for one in program[1]:
        params = {}
        for k, param in enumerate(one[1]):
            params[param] = (one[0], k)
        for body in bodies_in(one[2]):
            note_body(uses, params, body)
    return uses


def note_body(uses, params, body):
    if body[0] == "give":
        uses.add_reason(params, body[1], "given")
    elif body[0] == "let":
        note_deed(uses, params, body[2])
    elif body[0] == "case" and body[1] in params and uses_anew(body):
        uses.add_reason(params, body[1], "anew")


def note_deed(uses, params, deed):
    if deed[0] == "call":
        uses.add_call(params, deed)
    elif deed[0] in ("make", "func", "ask"):
        for name in deed[2]:
            uses.add_reason(params, name, "put")
    if deed[0] == "ask":
        uses.add_reason(params, deed[1], "asked")
    if deed[0] == "func":
        uses.handed[deed[1]] = True


# Whether some arm of the case can use the place anew of what the case looks at.
def uses_anew(body):
    return any([arm_uses_anew(body[1], arm) for arm in body[2]])


def arm_uses_anew(name, arm):
    many = len(arm[1])
    if many == 0 or ahead(arm[2], [name]) != 0:
        return False
    return any([makes(within, many) for within in bodies_in(arm[2])])


def makes(body, many):
    return body[0] == "let" and body[2][0] == "make" and len(body[2][2]) == many
