"""What several tests need: makers of programs, sound or not, and judges that share nothing with the
program: a writer, a judge of texts, a plain runner, the ways through a body."""

import math
import random
import re
from fractions import Fraction

from reusewise.errors import Full, Gone, ReuseError

LANGUAGE_WORDS = (
    "def kind give let if else case end num plus minus times over rest less same make call func ask"
).split()
OP_WORDS = "plus minus times over rest less same".split()
NAMING_WORDS = "make call func ask".split()

NAME = r"(?!(?:" + "|".join(LANGUAGE_WORDS) + r")(?![a-z]))[a-z]{1,12}(?![a-z])"
NAMES = rf"(?: {NAME}){{0,9}}"
NUMBER = r"(?:0|-?[1-9][0-9]{0,29})(?![0-9])"
KIND_ROW = re.compile(rf"kind(?: {NAME} [0-9])+")
DEF_ROW = re.compile(rf"def {NAME}{NAMES} = B")
DEED = re.compile(
    rf"(?<![a-z])(?:num {NUMBER}|(?:{'|'.join(OP_WORDS)}) {NAME} {NAME}"
    rf"|(?:{'|'.join(NAMING_WORDS)}) {NAME}{NAMES} ;)"
)
BODY = re.compile(
    rf"(?<![a-z])(?:give {NAME}|let {NAME} D B|if {NAME} B else B"
    rf"|case {NAME}(?: {NAME}{NAMES} : B){{1,20}} end(?![a-z]))"
)
SIGNS_OF_ROWS = re.compile(r"[a-z0-9=:; -]*")


def is_def_row(row):
    if not SIGNS_OF_ROWS.fullmatch(row):
        return False
    row = DEED.sub("D", row)
    shorter = BODY.sub("B", row)
    while shorter != row:
        row = shorter
        shorter = BODY.sub("B", row)
    return DEF_ROW.fullmatch(row) is not None


def bad_row(text):
    """The number of the first row that is none, or None where the text is a program's."""
    defs_begun = False
    for at, row in enumerate(text.split("\n") if text else []):
        if is_def_row(row):
            defs_begun = True
        elif defs_begun or not KIND_ROW.fullmatch(row):
            return at
    return None


def told_deed(deed):
    if deed[0] == "num":
        return f"num {deed[1]}"
    if deed[0] == "op":
        return " ".join(deed[1:])
    return " ".join((deed[0], deed[1], *deed[2], ";"))


def told_body(body):
    if body[0] == "give":
        return f"give {body[1]}"
    if body[0] == "let":
        return f"let {body[1]} {told_deed(body[2])} {told_body(body[3])}"
    if body[0] == "if":
        return f"if {body[1]} {told_body(body[2])} else {told_body(body[3])}"
    arms = [" ".join((tag, *names, ":", told_body(within))) for tag, names, within in body[2]]
    return " ".join(("case", body[1], *arms, "end"))


def told(program):
    kinds, defs = program
    rows = [" ".join(("kind", *(f"{tag} {size}" for tag, size in kind))) for kind in kinds]
    rows += [" ".join(("def", name, *params, "=", told_body(body))) for name, params, body in defs]
    return "\n".join(rows)


class Maker:
    """Makes programs of every form, the same ones for the same seed."""

    def __init__(self, seed):
        self.chance = random.Random(seed)

    def name(self):
        length = self.chance.choice((1, 1, 2, 3, 12))
        word = "".join(self.chance.choice("abcdefghijklmnopqrstuvwxyz") for _ in range(length))
        return self.name() if word in LANGUAGE_WORDS else word

    def names(self):
        return tuple(self.name() for _ in range(self.chance.choice((0, 0, 1, 2, 3, 9))))

    def deed(self):
        word = self.chance.choice(["num", *OP_WORDS, *NAMING_WORDS])
        if word == "num":
            most = self.chance.choice((0, 9, 10 ** 12, 10 ** 30 - 1))
            return ("num", self.chance.choice((most, -most, self.chance.randint(-most, most))))
        if word in OP_WORDS:
            return ("op", word, self.name(), self.name())
        return (word, self.name(), self.names())

    def body(self, depth):
        word = self.chance.choice(("give", "let", "let", "if", "case")) if depth else "give"
        if word == "give":
            return ("give", self.name())
        if word == "let":
            return ("let", self.name(), self.deed(), self.body(depth - 1))
        if word == "if":
            return ("if", self.name(), self.body(depth - 1), self.body(depth - 1))
        many = self.chance.choice((1, 1, 2, 3))
        arms = tuple((self.name(), self.names(), self.body(depth - 1)) for _ in range(many))
        return ("case", self.name(), arms)

    def kind(self):
        return tuple((self.name(), self.chance.randint(0, 9)) for _ in range(self.chance.randint(1, 4)))

    def program(self, depth=4):
        kinds = tuple(self.kind() for _ in range(self.chance.randint(0, 3)))
        many = self.chance.randint(0, 3)
        return (kinds, tuple((self.name(), self.names(), self.body(depth)) for _ in range(many)))


NUM = "num"
FUN = "fun"


class SoundMaker:
    """Makes sound programs, the same ones for the same seed, most of which run for a while.

    Each name goes by a guess of what it will be: NUM, FUN (a function that wants one number more
    and gives a number) or the place of a kind. Now and then a name of another guess is taken.
    """

    def __init__(self, seed, stray=0.05, depth=6, many=4, shapely=False):
        self.chance = random.Random(seed)
        # Shapely programs are mostly of cases and makes, few of them without a name.
        self.shapely = shapely
        self.words = ("let", "let", "if", "case", "case", "case") if shapely else ("let", "let", "let", "if", "case", "case")
        self.deeds = ["num", "op", "make", "make", "make", "call", "call", "func", "ask"] + ["make"] * 20 * shapely
        self.stray = stray
        self.depth = depth
        self.tags = {}
        kinds = [self.kind(place) for place in range(self.chance.randint(1, 3))]
        self.defs = {}
        for name in self.fresh(self.chance.randint(1, many), {}):
            guesses = [self.guess(len(kinds)) for _ in range(self.chance.choice((0, 1, 1, 2, 2, 3, 4)))]
            self.defs[name] = (guesses, self.guess(len(kinds), funs=False))
        self.kinds = len(kinds)
        defs = tuple(self.one_def(name) for name in self.defs)
        self.program = (tuple(kinds), defs)

    def kind(self, place):
        pairs = []
        for tag in self.fresh(self.chance.randint(1, 3), self.tags):
            size = 0 if not pairs else self.chance.choice((1, 1, 2) if self.shapely else (0, 1, 2, 2, 3))
            self.tags[tag] = (place, [self.chance.choice((NUM, NUM, place, place, FUN)) for _ in range(size)])
            pairs.append((tag, size))
        return tuple(pairs)

    def guess(self, kinds, funs=True):
        return self.chance.choice([NUM, NUM, *range(kinds), *range(kinds), *([FUN] if funs else [])])

    def fresh(self, many, taken):
        pool = [name for name in "abcdefghijklmnopqrstuvwxyz" if name not in taken]
        pool += [a + b for a in "pqrst" for b in "xyz" if a + b not in taken]
        return self.chance.sample(pool[:30], many)

    def one_def(self, name):
        guesses = self.defs[name][0]
        params = self.fresh(len(guesses), {})
        return (name, tuple(params), self.body(self.depth, dict(zip(params, guesses)), self.defs[name][1]))

    def pick(self, scope, guess):
        fitting = [name for name in scope if scope[name] == guess]
        if scope and self.chance.random() < self.stray:
            return self.chance.choice(list(scope))
        return self.chance.choice(fitting) if fitting else None

    def body(self, depth, scope, wanted):
        found = self.pick(scope, wanted)
        if found is not None and (depth <= 0 or self.chance.random() < 0.12):
            return ("give", found)
        if depth <= 0:
            return self.ending(scope, wanted)
        word = self.chance.choice(self.words)
        if word == "if":
            looked = self.pick(scope, NUM)
            if looked is not None:
                return ("if", looked, self.body(depth - 1, scope, wanted), self.body(depth - 1, scope, wanted))
        if word == "case":
            place = self.chance.randrange(self.kinds)
            looked = self.pick(scope, place)
            if looked is not None:
                return ("case", looked, self.arms(place, depth, scope, wanted))
        deed, guess = self.deed(scope, wanted)
        return self.let(deed, guess, depth, scope, wanted)

    def let(self, deed, guess, depth, scope, wanted):
        name = self.fresh(1, scope)[0]
        return ("let", name, deed, self.body(depth - 1, {**scope, name: guess}, wanted))

    def arms(self, place, depth, scope, wanted):
        tags = [tag for tag in self.tags if self.tags[tag][0] == place]
        self.chance.shuffle(tags)
        arms = []
        for tag in tags:
            names = self.fresh(len(self.tags[tag][1]), scope)
            within = {**scope, **dict(zip(names, self.tags[tag][1]))}
            arms.append((tag, tuple(names), self.body(depth - 1, within, wanted)))
        return tuple(arms)

    def ending(self, scope, wanted):
        """A body without branches that gives what is wanted, however little there is to make it of."""
        if wanted == NUM:
            deed = ("num", self.chance.choice((0, 1, -1, 7)))
        elif wanted == FUN:
            deed = None
        else:
            deed = self.make(scope, wanted)
        name = self.fresh(1, scope)[0]
        return ("let", name, deed or ("num", 3), ("give", name))

    def make(self, scope, place):
        tags = [tag for tag in self.tags if self.tags[tag][0] == place]
        self.chance.shuffle(tags)
        if self.shapely:
            tags = sorted(tags, key=lambda tag: not self.tags[tag][1])
        for tag in tags:
            names = [self.pick(scope, guess) for guess in self.tags[tag][1]]
            if None not in names:
                return ("make", tag, tuple(names))
        return None

    def deed(self, scope, wanted):
        word = self.chance.choice(self.deeds)
        if word == "op" and self.pick(scope, NUM) is not None:
            a, b = self.pick(scope, NUM), self.pick(scope, NUM)
            if a is not None and b is not None:
                return ("op", self.chance.choice(OP_WORDS), a, b), NUM
        if word == "make":
            place = wanted if wanted in range(self.kinds) else self.chance.randrange(self.kinds)
            deed = self.make(scope, place)
            if deed is not None:
                return deed, place
        if word == "call":
            name = self.chance.choice(list(self.defs))
            names = [self.pick(scope, guess) for guess in self.defs[name][0]]
            if None not in names:
                return ("call", name, tuple(names)), self.defs[name][1]
        if word == "func":
            name = self.chance.choice(list(self.defs))
            guesses = self.defs[name][0]
            names = [self.pick(scope, guess) for guess in guesses[:-1]]
            if guesses and guesses[-1] == NUM and None not in names:
                return ("func", name, tuple(names)), FUN
        if word == "ask":
            g, a = self.pick(scope, FUN), self.pick(scope, NUM)
            if g is not None and a is not None:
                return ("ask", g, (a,)), NUM
        return ("num", self.chance.choice((0, 1, 2, -3, 10 ** 20))), NUM

    def argument(self, guess, depth=4):
        if guess in (NUM, FUN):
            return [self.chance.choice((0, 1, 2, -5))]
        tags = [tag for tag in self.tags if self.tags[tag][0] == guess]
        tag = tags[0] if depth <= 0 else self.chance.choice(tags)
        parts = [tag]
        for within in self.tags[tag][1]:
            parts += self.argument(within, depth - 1)
        return parts

    def begin(self):
        """A def's name and arguments for it."""
        name = self.chance.choice(list(self.defs))
        return name, [self.argument(guess) for guess in self.defs[name][0]]


LIBRARY = """\
kind nil 0 cons 2
kind tip 0 fork 3
kind wrap 1
def upto n = let z num 0 let p less z n if p let o num 1 let m minus n o let r call upto m ; let c make cons n r ; give c else let e make nil ; give e
def inc xs = case xs nil : let e make nil ; give e cons h t : let o num 1 let a plus h o let r call inc t ; let c make cons a r ; give c end
def total xs = case xs nil : let z num 0 give z cons h t : let s call total t ; let r plus h s give r end
def turned xs acc = case xs nil : give acc cons h t : let a make cons h acc ; let r call turned t a ; give r end
def joined xs ys = case xs nil : give ys cons h t : let r call joined t ys ; let c make cons h r ; give c end
def mapped g xs = case xs nil : give xs cons h t : let a ask g h ; let r call mapped g t ; let c make cons a r ; give c end
def added a b = let s plus a b give s
def addall n xs = let g func added n ; let r call mapped g xs ; give r
def kept g xs = case xs nil : give xs cons h t : let r call kept g t ; let a ask g h ; if a let c make cons h r ; give c else give r end
def below n x = let r less x n give r
def keptbelow n xs = let g func below n ; let r call kept g xs ; give r
def both xs = let a call inc xs ; let b call joined xs a ; let c make cons xs b ; give c
def put k t = case t tip : let e make tip ; let r make fork e k e ; give r fork l n r : let p less k n if p let a call put k l ; let b make fork a n r ; give b else let a call put k r ; let b make fork l n a ; give b end
def planted xs t = case xs nil : give t cons h r : let a call put h t ; let b call planted r a ; give b end
def flat t = case t tip : let e make nil ; give e fork l n r : let a call flat l ; let b call flat r ; let c make cons n b ; let d call joined a c ; give d end
def sorted xs = let e make tip ; let t call planted xs e ; let r call flat t ; give r
def tower n x = if n let o num 1 let m minus n o let y make cons x x ; let r call tower m y ; give r else give x
def heap n x = if n let o num 1 let m minus n o let y make wrap x ; let r call heap m y ; give r else give x
def forever x = let y call forever x ; give y
def wrapped x = let y make wrap x ; give y
def inner w = case w wrap x : give x end
def rewrap w = case w wrap x : let z num 5 let v make wrap z ; if x give v else give w end
def twicewrap w = case w wrap x : let a make wrap x ; let b make wrap a ; give b end
def counted n = if n let o num 1 let m minus n o let r call counted m ; let s plus r o give s else give n
def folded g xs z = case xs nil : give z cons h t : let a ask g z h ; let r call folded g t a ; give r end
def sumup xs = let g func added ; let z num 0 let r call folded g xs z ; give r
def lastof xs = case xs nil : let z num -1 give z cons h t : case t nil : give h cons i u : let r call lastof t ; give r end end"""


def parts_in(number_list):
    """The parts of a row of numbers, a list."""
    return [thing for number in number_list for thing in ("cons", number)] + ["nil"]


class Stopped(Exception):
    pass


class PlainRun:
    """A plain runner by calls within calls, which shares nothing with the program's."""

    OPS = {
        "plus": lambda a, b: a + b, "minus": lambda a, b: a - b, "times": lambda a, b: a * b,
        "over": lambda a, b: math.floor(Fraction(a, b)), "rest": lambda a, b: a - b * math.floor(Fraction(a, b)),
        "less": lambda a, b: int(a < b), "same": lambda a, b: int(a == b),
    }

    def __init__(self, program, steps):
        self.defs = {name: (params, body) for name, params, body in program[1]}
        self.sizes = dict(pair for kind in program[0] for pair in kind)
        self.steps = self.left = steps

    def answer(self, name, args):
        try:
            value = self.called(name, [self.value(list(parts)) for parts in args])
        except Stopped as stop:
            return stop.args[0]
        told_parts = []
        self.tell(value, told_parts)
        return ("told", told_parts)

    def tell(self, value, told_parts):
        if len(told_parts) < 100:
            told_parts.append(value[0] if isinstance(value, tuple) else value)
            for part in value[1] if isinstance(value, tuple) else ():
                self.tell(part, told_parts)

    def value(self, parts):
        first = parts.pop(0)
        return first if isinstance(first, int) else (first, [self.value(parts) for _ in range(self.sizes[first])])

    def called(self, name, values):
        params, body = self.defs[name]
        return self.body(body, dict(zip(params, values)))

    def step(self, name, values):
        if self.left == 0:
            raise Stopped(("late", self.steps))
        self.left -= 1
        return self.called(name, values)

    def body(self, body, names):
        if body[0] == "give":
            return names[body[1]]
        if body[0] == "let":
            return self.body(body[3], {**names, body[1]: self.deed(body[2], names)})
        looked = names[body[1]]
        if body[0] == "if":
            if isinstance(looked, tuple):
                raise Stopped(("fault", "nonumber"))
            return self.body(body[2] if looked else body[3], names)
        for tag, parts, within in body[2]:
            if isinstance(looked, tuple) and looked[0] == tag:
                return self.body(within, {**names, **dict(zip(parts, looked[1]))})
        raise Stopped(("fault", "noshape"))

    def deed(self, deed, names):
        if deed[0] == "num":
            return deed[1]
        if deed[0] == "op":
            return self.op(deed[1], names[deed[2]], names[deed[3]])
        values = [names[name] for name in deed[2]]
        if deed[0] == "make":
            return (deed[1], values)
        if deed[0] == "func":
            return (f"func {deed[1]} {len(values)}", values)
        if deed[0] == "call":
            return self.step(deed[1], values)
        g = names[deed[1]]
        if isinstance(g, tuple) and g[0].startswith("func "):
            name = g[0].split()[1]
            if len(g[1]) + len(values) == len(self.defs[name][0]):
                return self.step(name, g[1] + values)
        raise Stopped(("fault", "nofunc"))

    def op(self, word, a, b):
        if isinstance(a, tuple) or isinstance(b, tuple):
            raise Stopped(("fault", "nonumber"))
        if word in ("over", "rest") and b == 0:
            raise Stopped(("fault", "nought"))
        result = self.OPS[word](a, b)
        if abs(result) >= 10 ** 30:
            raise Stopped(("fault", "great"))
        return result


def plain_answer(program, name, args, steps):
    return PlainRun(program, steps).answer(name, args)


def deed_names(deed):
    if deed[0] == "num":
        return []
    if deed[0] == "op":
        return [deed[2], deed[3]]
    return ([deed[1]] if deed[0] == "ask" else []) + list(deed[2])


def ways(body):
    """Each way through a body, plain or held, as the list of what is met on it: the piece's word, the
    names that it uses, the names that it binds."""
    if body[0] == "give":
        return [[("give", [body[1]], [])]]
    if body[0] == "let":
        first = ("let", deed_names(body[2]), [body[1]])
        return [[first] + way for way in ways(body[3])]
    if body[0] == "if":
        return [[("if", [body[1]], [])] + way for within in body[2:] for way in ways(within)]
    if body[0] == "case":
        return [[("case", [body[1]], list(arm[1]))] + way for arm in body[2] for way in ways(arm[-1])]
    if body[0] == "hold":
        return [[("hold", [body[2]], [body[1]])] + way for way in ways(body[3])]
    return [[(body[0], [], [])] + way for way in ways(body[2])]


def used_ahead(body, name):
    for way in ways(body):
        for _, used, binds in way:
            if name in used:
                return True
            if name in binds:
                break
    return False


def all_bodies(body):
    """A body and all within it, plain or held."""
    yield body
    if body[0] == "case":
        for arm in body[2]:
            yield from all_bodies(arm[-1])
    elif body[0] != "give":
        for within in body[2:] if body[0] == "if" else body[-1:]:
            yield from all_bodies(within)


def handed_defs(program):
    """The names of the defs that some func names."""
    bodies = [body for one in program[1] for body in all_bodies(one[-1])]
    return {body[2][1] for body in bodies if body[0] == "let" and body[2][0] == "func"}


def some_owns(program, chance):
    """Owns for each def, by chance where no func names it."""
    handed = handed_defs(program)
    return {
        name: tuple(name in handed or chance.random() < 0.5 for _ in params) for name, params, _ in program[1]
    }


def paths(body):
    """Each way through a body as the list of the bodies on it, from the outside in, each with the
    arm that it goes on with, or None."""
    if body[0] == "give":
        return [[(body, None)]]
    if body[0] == "case":
        return [[(body, arm)] + path for arm in body[2] for path in paths(arm[-1])]
    within = body[2:] if body[0] == "if" else body[-1:]
    return [[(body, None)] + path for one in within for path in paths(one)]


class Broken(Exception):
    pass


def insist(fits):
    if not fits:
        raise Broken()


def spent_and_looked(body, owns):
    """The names that a body's outermost piece uses up, and those that it only looks at or lends."""
    if body[0] == "give":
        return [body[1]], []
    if body[0] == "let":
        deed = body[2]
        names = deed_names(deed)
        ends = owns[deed[1]] if deed[0] == "call" else [deed[0] != "op"] * len(names)
        return ([name for name, end in zip(names, ends) if end], [name for name, end in zip(names, ends) if not end])
    if body[0] == "hold":
        return [], [body[2]]
    if body[0] == "drop":
        return [body[1]], []
    return [], [body[1]] if body[0] in ("if", "case") else []


class Walker:
    """Goes along one way through a held def and keeps what is at hand, as [15] and [21] tell it."""

    def __init__(self, one, owns):
        self.owns = owns
        self.held = [param for param, own in zip(one[1], one[2]) if own]
        self.lent = [param for param, own in zip(one[1], one[2]) if not own]
        self.kept = {}

    def go(self, body, arm):
        spent, looked = spent_and_looked(body, self.owns)
        if body[0] == "case" and arm[2] == "take":
            spent, looked = looked, []
        for name in spent:
            insist(name in self.held)
            self.held.remove(name)
        insist(all(name in self.held + self.lent for name in looked))
        if body[0] == "let":
            self.deed(body[2])
        if body[0] == "loose":
            insist(self.kept.pop(body[1], None) is not None)
        if body[0] == "give":
            insist(not self.held and not self.kept)
        for name in [body[1]] if body[0] in ("let", "hold") else arm[1] if arm else []:
            insist(name not in self.held + self.lent)
            self.held.append(name)
        if arm and arm[3]:
            insist(arm[2] == "take" and arm[1] and arm[3] not in self.kept)
            self.kept[arm[3]] = len(arm[1])

    def deed(self, deed):
        if deed[0] == "func":
            insist(all(self.owns[deed[1]]))
        if deed[0] == "make" and deed[3]:
            insist(self.kept.pop(deed[3], None) == len(deed[2]))


def first_unheld(code):
    """The name of the first def in which the code is otherwise than [21] tells, or None."""
    owns = {one[0]: one[2] for one in code[1]}
    for one in code[1]:
        for path in paths(one[3]):
            walker = Walker(one, owns)
            try:
                for body, arm in path:
                    walker.go(body, arm)
            except Broken:
                return one[0]
    return None


def is_tight(code):
    """Whether the code, let by, is tight as [22] tells it."""
    owns = {one[0]: one[2] for one in code[1]}
    for one in code[1]:
        for path in paths(one[3]):
            walker = Walker(one, owns)
            for body, arm in path:
                if body[0] not in ("hold", "drop", "loose"):
                    if not all(used_ahead(body, name) for name in walker.held):
                        return False
                walker.go(body, arm)
    return True


def rewritten(body, change):
    """The body with each body in it, from the inside out, handed to `change`."""
    if body[0] == "if":
        body = body[:2] + tuple(rewritten(within, change) for within in body[2:])
    elif body[0] == "case":
        body = ("case", body[1], tuple(arm[:-1] + (rewritten(arm[-1], change),) for arm in body[2]))
    elif body[0] != "give":
        body = body[:-1] + (rewritten(body[-1], change),)
    return change(body)


class Spoiler:
    """Changes held code at one place, or at a few, by chance."""

    def __init__(self, seed):
        self.chance = random.Random(seed)

    def spoilt(self, code):
        defs = list(code[1])
        for _ in range(self.chance.choice((1, 1, 1, 2, 3))):
            at = self.chance.randrange(len(defs))
            defs[at] = self.spoilt_def(defs[at])
        return (code[0], tuple(defs))

    def spoilt_def(self, one):
        if one[1] and self.chance.random() < 0.08:
            k = self.chance.randrange(len(one[1]))
            return one[:2] + (one[2][:k] + (not one[2][k],) + one[2][k + 1:], one[3])
        bodies = list(all_bodies(one[3]))
        place = self.chance.randrange(len(bodies))
        self.names = sorted({name for way in ways(one[3])[:20] for _, used, binds in way for name in used + binds})
        self.tokens = ["", "t", *{arm[3] for body in bodies if body[0] == "case" for arm in body[2]}]
        self.tokens.sort()
        met = []

        def change(body):
            met.append(body)
            return self.changed(body) if len(met) == place + 1 else body

        return one[:3] + (rewritten(one[3], change),)

    def changed(self, body):
        name, token = self.chance.choice(self.names), self.chance.choice(self.tokens)
        how = self.chance.randrange(8)
        if how == 0:
            return ("drop", name, body)
        if how == 1:
            return ("hold", self.chance.choice((name, "new", "other")), self.chance.choice(self.names), body)
        if how == 2:
            return ("loose", token, body)
        if body[0] in ("hold", "drop", "loose") and how < 6:
            return body[-1]
        if body[0] == "hold":
            return body[:1] + self.chance.choice(((name, body[2]), (body[1], name))) + body[3:]
        if body[0] == "case":
            k = self.chance.randrange(len(body[2]))
            return ("case", body[1], body[2][:k] + (self.changed_arm(body[2][k], token),) + body[2][k + 1:])
        if body[0] == "let" and body[2][0] != "num":
            return body[:2] + (self.changed_deed(body[2], name, token), body[3])
        return body[:1] + (name,) + body[2:]

    def changed_arm(self, arm, token):
        if self.chance.random() < 0.5:
            return arm[:2] + ("take" if arm[2] == "look" else "look",) + arm[3:]
        return arm[:3] + (token,) + arm[4:]

    def changed_deed(self, deed, name, token):
        if deed[0] == "make" and self.chance.random() < 0.3:
            return deed[:3] + (token,)
        if deed[0] == "op":
            return deed[:2] + self.chance.choice(((name, deed[3]), (deed[2], name)))
        if deed[0] == "ask" and self.chance.random() < 0.3:
            return ("ask", name, deed[2])
        if not deed[2]:
            return deed
        k = self.chance.randrange(len(deed[2]))
        return deed[:2] + (deed[2][:k] + (name,) + deed[2][k + 1:],) + deed[3:]


class Loosener:
    """Makes other code that is let by of code that is: drops stand later, names are held besides,
    arms look and drop where they took."""

    def __init__(self, seed):
        self.chance = random.Random(seed)
        self.many = 0

    def other(self, code):
        for _ in range(self.chance.randint(1, 6)):
            at = self.chance.randrange(len(code[1]))
            one = code[1][at]
            changed = (code[0], code[1][:at] + (one[:3] + (self.somewhere(one[3]),),) + code[1][at + 1:])
            if first_unheld(changed) is None:
                code = changed
        return code

    def somewhere(self, body):
        names = sorted({name for way in ways(body)[:20] for _, used, binds in way for name in used + binds})
        order, met = [], []
        rewritten(body, lambda one: order.append(one) or one)
        place = self.chance.choice([at for at, one in enumerate(order) if one[0] not in ("give", "loose")] or [0])

        def change(one):
            met.append(one)
            return self.changed(one, self.chance.choice(names)) if len(met) == place + 1 else one

        return rewritten(body, change)

    def changed(self, body, name):
        if body[0] == "drop" and self.chance.random() < 0.8:
            return self.later(body[1], body[2])
        if body[0] == "case" and self.chance.random() < 0.7:
            arms = [self.looking(body[1], arm) for arm in body[2]]
            return ("case", body[1], tuple(arms))
        self.many += 1
        new = f"besides{self.many}"
        return ("hold", new, name, self.at_the_ends(new, body))

    def later(self, name, body):
        """The body with a drop of the name a piece later."""
        if body[0] == "give":
            return ("drop", name, body)
        if body[0] == "if":
            return body[:2] + tuple(("drop", name, within) for within in body[2:])
        if body[0] == "case":
            return ("case", body[1], tuple(arm[:4] + (("drop", name, arm[4]),) for arm in body[2]))
        return body[:-1] + (("drop", name, body[-1]),)

    def looking(self, name, arm):
        if arm[2] == "look" or arm[3] or self.chance.random() < 0.5:
            return arm
        return arm[:2] + ("look", "", ("drop", name, arm[4]))

    def at_the_ends(self, name, body):
        return rewritten(body, lambda one: ("drop", name, one) if one[0] == "give" else one)


class PlainHeap:
    """A heap that keeps everything in plain lists and finds all anew each time; slow where asked.

    Its methods raise Broken where the program's refuse."""

    def __init__(self, size, slow=False):
        self.size, self.slow = size, slow
        self.fresh = self.anew = self.peak = 0
        self.rows = []      # [at, tag, parts, count]
        self.kept, self.row = [], []

    def found(self, value):
        rows = [row for row in self.rows if row[0] == value[1] and value[1] not in self.row]
        insist(rows)
        return rows[0]

    def make(self, tag, parts, kept=None):
        if not parts:
            return tag
        if kept in self.kept:
            self.kept.remove(kept)
            self.anew += 1
        else:
            if len(self.rows) + len(self.kept) == self.size:
                insist(self.row or self.kept)
                if self.row:
                    self.work(1)
                else:
                    self.kept.remove(min(self.kept))
            kept = self.fresh
            self.fresh += 1
        self.rows.append([kept, tag, list(parts), 1])
        self.peak = max(self.peak, len(self.rows))
        return ("box", kept)

    def hold(self, value):
        if isinstance(value, tuple):
            self.found(value)[3] += 1

    def let_go(self, value):
        if isinstance(value, tuple):
            row = self.found(value)
            row[3] -= 1
            if row[3] == 0:
                self.row.append(row[0])
                if not self.slow:
                    self.work(1)

    def look(self, value):
        if isinstance(value, tuple):
            return (self.found(value)[1], list(self.found(value)[2]))
        return (value if isinstance(value, str) else "", [])

    def take(self, value, keep=False):
        if not isinstance(value, tuple):
            return ([], None)
        row = self.found(value)
        if row[3] > 1:
            row[3] -= 1
            for part in row[2]:
                self.hold(part)
            return (list(row[2]), None)
        self.rows.remove(row)
        self.kept += [row[0]] if keep else []
        return (list(row[2]), row[0] if keep else None)

    def loose(self, kept):
        self.kept = [one for one in self.kept if one != kept]

    def work(self, many):
        done = 0
        while done < many and self.row:
            at = self.row.pop(0)
            row = [row for row in self.rows if row[0] == at][0]
            self.rows.remove(row)
            for part in row[2]:
                self.let_go(part)
            done += 1
        return done

    def state(self):
        return (
            self.size, self.fresh, self.anew, self.peak, sorted(tuple(row) for row in self.rows), sorted(self.kept), self.row
        )


def heap_state(heap):
    return (heap.size, heap.fresh, heap.anew, heap.peak, heap.boxes(), heap.keeping(), heap.waits())


def heap_refuses(test, refusal, heap, method, *given):
    before = heap_state(heap)
    for _ in range(2):
        with test.assertRaises(ReuseError) as caught:
            getattr(heap, method)(*given)
        test.assertIs(type(caught.exception), refusal)
        test.assertEqual(heap_state(heap), before)


class HeapDriver:
    """Asks a heap and a PlainHeap the same by chance, holding what they give, and tells whether they differ."""

    def __init__(self, test, heap, other, seed):
        self.test, self.heap, self.other = test, heap, other
        self.chance = random.Random(seed)
        self.hands = [3, -1, "nil"]
        self.kept = [None]

    def both(self, method, *given):
        """What both answer, or Broken where both refuse; nothing is changed then."""
        before = heap_state(self.heap)
        try:
            wanted = getattr(self.other, method)(*given)
        except Broken:
            self.test.assertRaises((Full, Gone), getattr(self.heap, method), *given)
            self.test.assertEqual(heap_state(self.heap), before)
            return Broken
        found = getattr(self.heap, method)(*given)
        self.test.assertEqual(found, wanted)
        self.test.assertEqual(heap_state(self.heap), self.other.state())
        return found

    def go(self):
        how = self.chance.choice(("make", "make", "make", "hold", "let_go", "let_go", "look", "take", "take", "loose", "work", "gone"))
        if how == "make":
            self.make()
        elif how == "loose":
            self.both("loose", self.chance.choice(self.kept))
        elif how == "work":
            self.both("work", self.chance.choice((0, 1, 2, 5)))
        elif how == "gone":
            self.gone()
        elif self.hands:
            self.held(how)

    def make(self):
        many = min(self.chance.randint(0, 4), len(self.hands))
        places = self.chance.sample(range(len(self.hands)), many)
        parts = [self.hands[place] for place in places]
        found = self.both("make", self.chance.choice(("cons", "leaf", "func f 2")), parts, self.chance.choice(self.kept))
        if found is not Broken:
            self.hands = [value for place, value in enumerate(self.hands) if place not in places] + [found]

    def gone(self):
        at = self.chance.randrange(-1, self.heap.fresh + 2)
        if at not in [row[0] for row in self.other.rows] or at in self.other.row:
            method = self.chance.choice(("hold", "let_go", "look", "take"))
            self.test.assertIs(self.both(method, ("box", at)), Broken)

    def held(self, how):
        place = self.chance.randrange(len(self.hands))
        value = self.hands[place]
        if how == "hold":
            self.both("hold", value)
            self.hands.append(value)
        elif how == "look":
            self.both("look", value)
        else:
            self.hands.pop(place)
            if how == "let_go":
                self.both("let_go", value)
            else:
                parts, kept = self.both("take", value, self.chance.choice((True, False)))
                self.hands += parts
                self.kept.append(kept)


class Unpromised(Exception):
    """Of such code nothing is promised of a run."""


class PlainMachine:
    """A machine on a PlainHeap, put together from [26] to [28] alone. A frame is a dict; the first one,
    whose body is not promised, has the names still to be dropped, the last of them the answer's."""

    def __init__(self, code, name, args, steps, size, stretch=0):
        self.defs = {one[0]: one for one in code[1]}
        self.sizes = dict(pair for kind in code[0] for pair in kind)
        self.steps, self.done, self.stretch, self.end = steps, 0, stretch, None
        self.heap, self.frames = PlainHeap(size, slow=stretch != 0), []
        one = self.defs[name]
        try:
            values = [self.argument(list(parts)) for parts in args]
        except Broken:
            self.end = ("fault", "full")
            return
        lent = {param: value for param, own, value in zip(one[1], one[2], values) if not own}
        self.frames = [{"left": list(lent), "wants": True, "held": lent, "lent": {}, "tokens": {}}]
        self.begin(name, values)

    def argument(self, parts):
        first = parts.pop(0)
        if isinstance(first, int):
            return first
        return self.heap.make(first, [self.argument(parts) for _ in range(self.sizes[first])])

    def begin(self, name, values):
        _, params, owns, body = self.defs[name]
        named = list(zip(params, owns, values))
        held = {param: value for param, own, value in named if own}
        lent = {param: value for param, own, value in named if not own}
        self.frames.append({"body": body, "wants": "", "held": held, "lent": lent, "tokens": {}})

    def turn(self):
        if self.end is None:
            if self.stretch:
                self.heap.work(self.stretch)
            try:
                if len(self.frames) == 1:
                    self.first_frame(self.frames[0])
                else:
                    self.piece(self.frames[-1])
            except Stopped as stop:
                self.end = stop.args[0]
            except Broken:
                self.end = ("fault", "full")
        return self.end is None

    def first_frame(self, frame):
        if frame["left"]:
            self.heap.let_go(frame["held"].pop(frame["left"].pop(0)))
            return
        value = frame["answer"]
        self.end = ("told", self.parts(value)[:100])
        self.heap.let_go(value)
        while self.heap.row:
            self.heap.work(1)
        self.frames = []

    def parts(self, value, most=100):
        if isinstance(value, int) or most <= 0:
            return [value]
        tag, parts = self.heap.look(value)
        told_parts = [tag]
        for part in parts:
            if len(told_parts) < most:
                told_parts += self.parts(part, most - len(told_parts))
        return told_parts[:most]

    def gone(self):
        raise Stopped(("fault", "gone"))

    def spend(self, frame, name):
        return frame["held"].pop(name) if name in frame["held"] else self.gone()

    def look(self, frame, name):
        both = {**frame["lent"], **frame["held"]}
        return both[name] if name in both else self.gone()

    def bind(self, frame, name, value):
        if name in frame["held"] or name in frame["lent"]:
            raise Unpromised()
        frame["held"][name] = value

    def piece(self, frame):
        body = frame["body"]
        if body[0] == "give":
            value = self.spend(frame, body[1])
            self.frames.pop()
            beneath = self.frames[-1]
            if len(self.frames) == 1:
                beneath["answer"] = value
            else:
                self.bind(beneath, beneath["wants"], value)
            beneath["wants"] = ""
            return
        if body[0] == "let":
            self.let(frame, body)
            return
        if body[0] == "if":
            value = self.look(frame, body[1])
            if not isinstance(value, int):
                raise Stopped(("fault", "nonumber"))
            frame["body"] = body[2] if value else body[3]
        elif body[0] == "case":
            frame["body"] = self.case(frame, body[1], body[2])
        else:
            if body[0] == "hold":
                value = self.look(frame, body[2])
                self.heap.hold(value)
                self.bind(frame, body[1], value)
            elif body[0] == "drop":
                self.heap.let_go(self.spend(frame, body[1]))
            else:
                self.heap.loose(self.token(frame, body[1]))
            frame["body"] = body[-1]

    def token(self, frame, token):
        return frame["tokens"].pop(token) if token in frame["tokens"] else self.gone()

    def case(self, frame, name, arms):
        value = self.look(frame, name)
        tag, parts = self.heap.look(value)
        found = [arm for arm in arms if arm[0] == tag]
        if not found:
            raise Stopped(("fault", "noshape"))
        _, names, mode, token, within = found[0]
        if mode == "look":
            for part in parts:
                self.heap.hold(part)
        else:
            self.spend(frame, name)
            parts, kept = self.heap.take(value, bool(token))
        for one, part in zip(names, parts):
            self.bind(frame, one, part)
        if token:
            if mode == "look" or token in frame["tokens"]:
                raise Unpromised()
            frame["tokens"][token] = kept
        return within

    def let(self, frame, body):
        deed = body[2]
        spent, looked = spent_and_looked(body, {name: one[2] for name, one in self.defs.items()})
        values = [self.spend(frame, name) for name in spent]
        lent = [self.look(frame, name) for name in looked]
        kept = self.token(frame, deed[3]) if deed[0] == "make" and deed[3] else None
        if deed[0] == "func" and not all(self.defs[deed[1]][2]):
            raise Unpromised()
        if deed[0] in ("call", "ask"):
            self.step(frame, body, values, lent)
            return
        if deed[0] == "num":
            value = deed[1]
        elif deed[0] == "op":
            plain = [one if isinstance(one, int) else (one, ()) for one in lent]
            value = PlainRun(((), ()), 0).op(deed[1], *plain)
        else:
            tag = deed[1] if deed[0] == "make" else f"func {deed[1]} {len(values)}"
            value = self.heap.make(tag, values, kept)
        self.bind(frame, body[1], value)
        frame["body"] = body[3]

    def step(self, frame, body, values, lent):
        deed = body[2]
        name = deed[1]
        if deed[0] == "ask":
            words = self.heap.look(values[0])[0].split()
            many = len(self.heap.look(values[0])[1]) + len(values) - 1
            if words[:1] != ["func"] or many != len(self.defs[words[1]][1]):
                raise Stopped(("fault", "nofunc"))
            name = words[1]
        if self.done == self.steps:
            raise Stopped(("late", self.steps))
        self.done += 1
        if deed[0] == "ask":
            handed = self.heap.take(values[0])[0] + values[1:]
        else:
            ends = self.defs[name][2]
            handed = [values.pop(0) if end else lent.pop(0) for end in ends]
        frame["wants"], frame["body"] = body[1], body[3]
        self.begin(name, handed)
