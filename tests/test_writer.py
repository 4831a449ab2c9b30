import copy
import unittest

from reusewise.reader import read
from reusewise.writer import shown
from tests.helper import NAMING_WORDS, OP_WORDS, Maker, SoundMaker, bad_row, told

NINE = ("a", "b", "c", "d", "e", "f", "g", "h", "i")
GREATEST = 10 ** 30 - 1


def row(body):
    """The text of a body, as it stands in the row of a def without params."""
    text = shown(((), (("f", (), body),)))
    assert text.startswith("def f = "), text
    return text[len("def f = "):]


def deed(done):
    text = row(("let", "x", done, ("give", "y")))
    assert text.startswith("let x ") and text.endswith(" give y"), text
    return text[len("let x "):-len(" give y")]


class Shown(unittest.TestCase):
    def test_the_program_without_kinds_and_defs(self):
        self.assertEqual(shown(((), ())), "")

    def test_kinds_alone(self):
        self.assertEqual(shown((((("nil", 0),),), ())), "kind nil 0")
        self.assertEqual(
            shown((((("nil", 0), ("cons", 2)), (("pair", 9),)), ())), "kind nil 0 cons 2\nkind pair 9"
        )

    def test_defs_alone(self):
        self.assertEqual(shown(((), (("f", (), ("give", "x")),))), "def f = give x")
        self.assertEqual(
            shown(((), (("f", ("x",), ("give", "x")), ("g", NINE, ("give", "a"))))),
            "def f x = give x\ndef g a b c d e f g h i = give a",
        )

    def test_kinds_ahead_of_defs(self):
        self.assertEqual(shown((((("nil", 0),),), (("f", (), ("give", "x")),))), "kind nil 0\ndef f = give x")

    def test_bodies(self):
        self.assertEqual(row(("give", "x")), "give x")
        self.assertEqual(row(("let", "x", ("num", 1), ("give", "y"))), "let x num 1 give y")
        self.assertEqual(row(("if", "x", ("give", "y"), ("give", "z"))), "if x give y else give z")
        self.assertEqual(row(("case", "x", (("nil", (), ("give", "y")),))), "case x nil : give y end")
        self.assertEqual(
            row(("case", "x", (("nil", (), ("give", "y")), ("big", NINE, ("give", "a"))))),
            "case x nil : give y big a b c d e f g h i : give a end",
        )

    def test_twenty_arms(self):
        arms = tuple(("t" * (1 + k % 12), (), ("give", "y")) for k in range(20))
        self.assertEqual(
            row(("case", "x", arms)), "case x " + "".join(f"{tag} : give y " for tag, _, _ in arms) + "end"
        )

    def test_bodies_within_bodies_in_their_order(self):
        inner = ("if", "b", ("give", "p"), ("case", "q", (("r", (), ("give", "s")),)))
        self.assertEqual(
            row(("case", "x", (("s", ("a",), inner), ("t", (), ("if", "c", inner, ("give", "z")))))),
            "case x s a : if b give p else case q r : give s end "
            "t : if c if b give p else case q r : give s end else give z end",
        )

    def test_numbers(self):
        for number in (0, -1, 1, 9, -10, GREATEST, -GREATEST, 10 ** 29):
            self.assertEqual(deed(("num", number)), f"num {number}")
        self.assertEqual(deed(("num", -GREATEST)), "num -" + "9" * 30)

    def test_ops(self):
        for word in OP_WORDS:
            self.assertEqual(deed(("op", word, "a", "b")), f"{word} a b")

    def test_deeds_with_names(self):
        for word in NAMING_WORDS:
            self.assertEqual(deed((word, "r", ())), f"{word} r ;")
            self.assertEqual(deed((word, "r", ("a",))), f"{word} r a ;")
            self.assertEqual(deed((word, "r", NINE)), f"{word} r a b c d e f g h i ;")


class ThereAndBack(unittest.TestCase):
    def both_ways(self, program):
        text = shown(program)
        self.assertEqual(text, told(program))
        self.assertIsNone(bad_row(text))
        self.assertEqual(read(text), program)
        self.assertEqual(shown(read(text)), text)
        self.assertEqual(shown(program), text)

    def test_programs_sound_or_not(self):
        for seed in range(400):
            self.both_ways(Maker(seed).program())

    def test_sound_programs(self):
        for seed in range(100):
            self.both_ways(SoundMaker(seed).program)

    def test_nothing_is_changed(self):
        for seed in range(50):
            program = Maker(seed).program()
            before = copy.deepcopy(program)
            shown(program)
            self.assertEqual(program, before)


class Depth(unittest.TestCase):
    # Beyond some hundred the program is held against the text alone: Python's own == of tuples falls by depth.
    def deep(self, many, wrapped, text):
        body = ("give", "a")
        for _ in range(many):
            body = wrapped(body)
        shown_text = row(body)
        self.assertEqual(shown_text, text)
        if many <= 61:
            self.assertEqual(read("def f = " + shown_text), ((), (("f", (), body),)))

    def test_one_within_another(self):
        for many in (60, 61, 250, 5000):
            with self.subTest(many=many):
                self.deep(many, lambda body: ("let", "a", ("num", 0), body), "let a num 0 " * many + "give a")
                self.deep(
                    many, lambda body: ("if", "a", body, ("give", "b")), "if a " * many + "give a" + " else give b" * many
                )
                self.deep(many, lambda body: ("if", "a", ("give", "b"), body), "if a give b else " * many + "give a")
                self.deep(
                    many, lambda body: ("case", "a", (("s", (), ("give", "b")), ("t", ("c",), body))),
                    "case a s : give b t c : " * many + "give a" + " end" * many,
                )
                self.deep(
                    many, lambda body: ("case", "a", (("t", ("c",), body), ("s", (), ("give", "b")))),
                    "case a t c : " * many + "give a" + " s : give b end" * many,
                )


if __name__ == "__main__":
    unittest.main()
