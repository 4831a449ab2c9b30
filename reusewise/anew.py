"""Puts tokens into held code, so that places are used anew."""

from reusewise.uses import bound
from reusewise.walk import bodies_in, bodies_within, with_bodies, worked_out


def anew(code):
    tokens = Tokens(code)
    return (code[0], tuple([anew_def(tokens, one) for one in code[1]]))


def anew_def(tokens, one):
    return one[:3] + (worked_out(one[3], lambda body: begun_tokens(tokens, body)),)


class Tokens:
    def __init__(self, code):
        self.taken = {}
        for one in code[1]:
            for name in bound(one):
                self.taken[name] = True
        self.many = 0

    def next_token(self):
        self.many = self.many + 1
        many = self.many
        return f"place.{many}"

    # The names that holds bind are texts of any sort, so a token is looked for that is none of them.
    def new_token(self):
        token = self.next_token()
        while token in self.taken:
            token = self.next_token()
        return token


# The arms are given their tokens ahead of those within them, which have the makes that are left.
def begun_tokens(tokens, body):
    changed = body
    if body[0] == "case":
        changed = ("case", body[1], tuple([with_token(tokens, arm) for arm in body[2]]))
    return (bodies_within(changed), lambda results: with_bodies(changed, results))


def with_token(tokens, arm):
    many = len(arm[1])
    if arm[2] != "take" or many == 0:
        return arm
    if not any([is_left(body, many) for body in bodies_in(arm[4])]):
        return arm
    token = tokens.new_token()
    return arm[:3] + (token, worked_out(arm[4], lambda body: begun_ways(token, many, body))[0])


# Whether it is a make with so many names and no token yet.
def is_left(body, many):
    if body[0] != "let" or body[2][0] != "make":
        return False
    return len(body[2][2]) == many and body[2][3] == ""


# The result is a pair: the body with the token put in, and whether some way through it has a make for it.
def begun_ways(token, many, body):
    if is_left(body, many):
        deed = body[2][:3] + (token,)
        return ([], lambda results: (body[:2] + (deed, body[3]), True))
    return (bodies_within(body), lambda results: joined_ways(token, body, results))


def joined_ways(token, body, results):
    if not any([result[1] for result in results]):
        return (body, False)
    within = [result[0] if result[1] else ("loose", token, result[0]) for result in results]
    return (with_bodies(body, within), True)
