import unittest

from reusewise.reader import read
from reusewise.uses import ahead, bound
from tests.helper import SoundMaker, all_bodies, used_ahead, ways

MANY = [a + b for a in "abcdefghij" for b in "klmnopqrst"]


def one_def(text):
    return read(text)[1][0]


def body_of(text):
    return one_def(f"def f = {text}")[2]


class Bound(unittest.TestCase):
    def told(self, text, names):
        for _ in range(2):
            found = bound(one_def(text))
            self.assertIs(type(found), list)
            self.assertEqual(found, names.split())
            found.append("more")

    def test_params(self):
        self.told("def f a = give a", "a")
        self.told("def f c b a = give a", "c b a")
        self.told("def f a b c d e f g h i = give a", "a b c d e f g h i")

    def test_none(self):
        self.assertEqual(bound(("f", (), ("give", "x"))), [])

    def test_lets(self):
        self.told("def f b = let a num 1 let d plus a b let c make nil ; give c", "b a d c")

    def test_arms_in_the_order_of_the_text(self):
        self.told("def f x = case x s d c : let b num 1 give b t a : give a end", "x d c b a")
        self.told("def f x = case x s : case x s c : give c end t b a : give a end", "x c b a")

    def test_ifs(self):
        self.told("def f x = if x let b num 1 give b else let a num 1 give a", "x b a")

    def test_names_bound_in_branches_beside_one_another_are_told_once(self):
        self.told("def f x = if x let b num 1 let a num 1 give b else let a num 1 let b num 1 let c num 1 give a", "x b a c")
        self.told("def f x = case x s b a : give b t a c : give a u c b d : give b end", "x b a c d")

    def test_names_that_are_only_used_are_not_told(self):
        self.told("def f x = let y call g z w ; give v", "x y")

    def test_made_programs(self):
        for seed in range(200):
            for one in SoundMaker(seed, depth=4).program[1]:
                names = bound(one)
                met = [name for way in ways(one[2]) for _, _, binds in way for name in binds]
                self.assertEqual(sorted(names), sorted({*one[1], *met}))
                self.assertEqual(names[:len(one[1])], list(one[1]))

    def test_depth(self):
        lets = "".join(f"let {name} num 1 " for name in MANY)
        self.told(f"def f x = {lets}give x", " ".join(["x"] + MANY))
        deep = ("give", "x")
        for _ in range(5000):
            deep = ("if", "x", ("give", "x"), ("let", "y", ("num", 1), deep))
        self.assertEqual(bound(("f", ("x",), deep)), ["x", "y"])


class Ahead(unittest.TestCase):
    def told(self, text, used, names="a b c d e"):
        """Of these names just those that are `used` are told."""
        body = body_of(text)
        listed = names.split()
        handed = list(listed)
        wanted = sum(2 ** place for place, name in enumerate(listed) if name in used.split())
        for _ in range(2):
            self.assertEqual(ahead(body, handed), wanted, text)
            self.assertEqual(handed, listed)
        self.assertEqual(ahead(body, listed[::-1]), sum(2 ** at for at, one in enumerate(listed[::-1]) if one in used.split()))

    def test_each_piece(self):
        self.told("give a", "a")
        self.told("let x num 1 give a", "a")
        self.told("let x plus a b give x", "a b")
        self.told("let x plus a a give x", "a")
        self.told("let x make t a c ; give x", "a c")
        self.told("let x call a a c ; give x", "a c")
        self.told("let x func a b c ; give x", "b c")
        self.told("let x ask a ; give x", "a")
        self.told("let x ask a b d ; give x", "a b d")
        self.told("if a give b else give c", "a b c")
        self.told("case a t : give b s x y : give c end", "a b c")

    def test_names_of_tags_and_defs_are_no_use(self):
        self.told("let x make a ; give x", "")
        self.told("let x call b c ; give x", "c")
        self.told("case x a : give x b : give x end", "")

    def test_names_bound_by_the_body_itself(self):
        self.told("let a num 1 give a", "")
        self.told("let a num 1 let b plus a c give b", "c")
        self.told("case a t b c : give b s : give d end", "a d")

    def test_a_use_in_the_deed_goes_ahead_of_what_the_let_binds(self):
        self.told("let a plus a b give a", "a b")
        self.told("let a ask a ; give a", "a")
        self.told("case a t a : give a end", "a")

    def test_names_bound_anew_on_one_way_and_not_on_the_other(self):
        self.told("if c let a num 1 give a else give a", "a c")
        self.told("if c give a else let a num 1 give a", "a c")
        self.told("if c let a num 1 give a else let a num 2 give a", "c")
        self.told("case c t a : give a s : give a end", "a c")
        self.told("case c s : give b t a : give a end", "b c")
        self.told("case c t a b : give a s a : give b end", "b c")

    def test_used_ahead_of_being_bound(self):
        self.told("if a let a num 1 give a else let a num 2 give a", "a")
        self.told("let x plus a b let a num 1 give a", "a b")

    def test_no_names_and_names_that_are_nowhere(self):
        self.assertEqual(ahead(body_of("give a"), []), 0)
        self.assertEqual(ahead(body_of("give a"), ["b", "c"]), 0)
        self.told("give e", "e", "a b c d e")

    def test_more_than_64_names(self):
        self.assertEqual(len(MANY), 100)
        for place in (0, 1, 63, 64, 65, 99):
            self.assertEqual(ahead(("give", MANY[place]), MANY), 2 ** place)
        self.told(f"let x call f {' '.join(MANY[60:69])} ; let y plus x {MANY[99]} give y",
                  " ".join(MANY[60:69] + MANY[99:]), " ".join(MANY))

    def test_made_programs_held_against_the_ways_through_them(self):
        for seed in range(150):
            for one in SoundMaker(seed, depth=4).program[1]:
                names = bound(one) + ["zz"]
                for body in all_bodies(one[2]):
                    wanted = [name for name in names if used_ahead(body, name)]
                    found = ahead(body, names)
                    self.assertEqual([name for place, name in enumerate(names) if found >> place & 1], wanted)
                    self.assertEqual(found >> len(names), 0)

    def test_depth(self):
        deep = ("give", "a")
        for place in range(5000):
            deep = ("if", "b", ("give", "c"), ("let", "x", ("num", 1), deep))
        self.assertEqual(ahead(deep, ["a", "b", "c", "x", "d"]), 7)


if __name__ == "__main__":
    unittest.main()
