"""The frames of a machine, and what is at hand in them."""

from reusewise.errors import Fault


class Frame:
    def __init__(self, body, wants):
        self.body = body
        self.wants = wants
        self.held = {}
        self.lent = {}
        self.tokens = {}


def called_frame(one, values):
    frame = Frame(one[3], "")
    for param, own, value in zip(one[1], one[2], values):
        names = frame.held if own else frame.lent
        names[param] = value
    return frame


# The frame beneath the begun def's, with the name that it wants bound to the answer: it holds what
# is lent to that one, and drops it behind the call.
def first_frame(one, values, wants):
    lent = [(param, value) for param, own, value in zip(one[1], one[2], values) if not own]
    body = ("give", wants)
    for pair in reversed(lent):
        body = ("drop", pair[0], body)
    frame = Frame(body, wants)
    for param, value in lent:
        frame.held[param] = value
    return frame


def looked_at(frame, name):
    if name in frame.held:
        return frame.held[name]
    if name in frame.lent:
        return frame.lent[name]
    raise Fault("gone")


def used(frame, name):
    if name not in frame.held:
        raise Fault("gone")
    return frame.held.pop(name)


def used_token(frame, token):
    if token not in frame.tokens:
        raise Fault("gone")
    return frame.tokens.pop(token)


# The values of a deed's names, of which those at an end are used up. First these, for they are at
# hand no more for what the same deed lends.
def used_values(frame, names, ends):
    spent = [used(frame, name) if end else None for name, end in zip(names, ends)]
    return [value if end else looked_at(frame, name) for name, end, value in zip(names, ends, spent)]
