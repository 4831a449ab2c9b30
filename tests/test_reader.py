import unittest

from reusewise.errors import NoText
from reusewise.reader import read
from tests.helper import LANGUAGE_WORDS, NAMING_WORDS, OP_WORDS, Maker, bad_row, told

NINE = ("a", "b", "c", "d", "e", "f", "g", "h", "i")
TWELVE_LETTERS = "abcdefghijkl"
GREATEST = 10 ** 30 - 1
GOOD_KIND = "kind nil 0 cons 2"
GOOD_DEF = "def f x = give x"
# One row with every body and every deed; a case stands within an if and an if within a case.
EVERY_FORM = (
    "def every x y = let a num -7 let b plus x a let c make cons a b ; let d call every x y ; "
    "let e func every ; let g ask e x y ; if a case g nil : give b cons h t : if h give t else give c end else give d"
)


def one_def(body):
    """The body that is read from a def's row with this text of it."""
    kinds, defs = read("def f = " + body)
    assert kinds == () and len(defs) == 1 and defs[0][:2] == ("f", ())
    return defs[0][2]


def deed(text):
    body = one_def(f"let x {text} give x")
    assert body[:2] == ("let", "x") and body[3] == ("give", "x")
    return body[2]


def wholly_plain(thing):
    """Whether it is tuples, texts and whole numbers throughout (of just these classes)."""
    left = [thing]
    while left:
        one = left.pop()
        if type(one) is tuple:
            left.extend(one)
        elif type(one) not in (str, int):
            return False
    return True


class Reads(unittest.TestCase):
    def test_the_text_without_signs(self):
        self.assertEqual(read(""), ((), ()))

    def test_kinds(self):
        self.assertEqual(read("kind nil 0"), (((("nil", 0),),), ()))
        self.assertEqual(
            read("kind nil 0 cons 2\nkind pair 9"),
            (((("nil", 0), ("cons", 2)), (("pair", 9),)), ()),
        )

    def test_every_size(self):
        pairs = tuple((name, size) for size, name in enumerate("abcdefghij"))
        row = "kind " + " ".join(f"{name} {size}" for name, size in pairs)
        self.assertEqual(read(row), ((pairs,), ()))

    def test_defs(self):
        self.assertEqual(read("def f = give x"), ((), (("f", (), ("give", "x")),)))
        self.assertEqual(
            read("def f x = give x\ndef g x y = give y"),
            ((), (("f", ("x",), ("give", "x")), ("g", ("x", "y"), ("give", "y")))),
        )

    def test_kinds_then_defs(self):
        self.assertEqual(
            read(f"{GOOD_KIND}\n{GOOD_DEF}"),
            (((("nil", 0), ("cons", 2)),), (("f", ("x",), ("give", "x")),)),
        )

    def test_nine_params(self):
        self.assertEqual(read("def f a b c d e f g h i = give x")[1][0][1], NINE)

    def test_names_of_twelve_letters_everywhere(self):
        name = TWELVE_LETTERS
        self.assertEqual(
            read(f"kind {name} 1\ndef {name} {name} = let {name} make {name} {name} ; give {name}"),
            ((((name, 1),),), ((name, (name,), ("let", name, ("make", name, (name,)), ("give", name))),)),
        )

    def test_bodies(self):
        self.assertEqual(one_def("give x"), ("give", "x"))
        self.assertEqual(one_def("let x num 1 give y"), ("let", "x", ("num", 1), ("give", "y")))
        self.assertEqual(one_def("if x give y else give z"), ("if", "x", ("give", "y"), ("give", "z")))
        self.assertEqual(one_def("case x nil : give y end"), ("case", "x", (("nil", (), ("give", "y")),)))
        self.assertEqual(
            one_def("case x nil : give y cons h t : give h end"),
            ("case", "x", (("nil", (), ("give", "y")), ("cons", ("h", "t"), ("give", "h")))),
        )

    def test_an_arm_with_nine_names(self):
        self.assertEqual(
            one_def("case x big a b c d e f g h i : give y end"), ("case", "x", (("big", NINE, ("give", "y")),))
        )

    def test_from_one_to_twenty_arms(self):
        for many in range(1, 21):
            with self.subTest(many=many):
                arms = tuple(("t" * (1 + k % 12), (), ("give", "y")) for k in range(many))
                text = "case x " + "".join(f"{tag} : give y " for tag, names, body in arms) + "end"
                self.assertEqual(one_def(text), ("case", "x", arms))

    def test_an_else_belongs_to_the_if_that_lacks_one(self):
        inner = ("if", "b", ("give", "x"), ("give", "y"))
        self.assertEqual(one_def("if a if b give x else give y else give z"), ("if", "a", inner, ("give", "z")))
        self.assertEqual(one_def("if a give z else if b give x else give y"), ("if", "a", ("give", "z"), inner))

    def test_an_end_belongs_to_the_case_that_lacks_one(self):
        inner = ("case", "b", (("s", (), ("give", "x")), ("t", (), ("give", "y"))))
        self.assertEqual(
            one_def("case a r : case b s : give x t : give y end u : give z end"),
            ("case", "a", (("r", (), inner), ("u", (), ("give", "z")))),
        )
        self.assertEqual(
            one_def("case a r : give z u : case b s : give x t : give y end end"),
            ("case", "a", (("r", (), ("give", "z")), ("u", (), inner))),
        )

    def test_an_if_in_an_arm_and_a_case_in_an_if(self):
        case = ("case", "x", (("s", (), ("if", "b", ("give", "p"), ("give", "q"))), ("t", (), ("give", "y"))))
        text = "case x s : if b give p else give q t : give y end"
        self.assertEqual(one_def(text), case)
        self.assertEqual(one_def(f"if a {text} else {text}"), ("if", "a", case, case))

    def test_ops(self):
        for word in OP_WORDS:
            with self.subTest(word):
                self.assertEqual(deed(f"{word} a b"), ("op", word, "a", "b"))

    def test_deeds_with_names(self):
        for word in NAMING_WORDS:
            with self.subTest(word):
                self.assertEqual(deed(f"{word} r ;"), (word, "r", ()))
                self.assertEqual(deed(f"{word} r a ;"), (word, "r", ("a",)))
                self.assertEqual(deed(f"{word} r a b c d e f g h i ;"), (word, "r", NINE))

    def test_numbers(self):
        for number in (0, 1, -1, 9, 10, -10, GREATEST, -GREATEST, 10 ** 29, -(10 ** 29)):
            with self.subTest(number):
                self.assertEqual(deed(f"num {number}"), ("num", number))

    def test_every_form_in_one_row(self):
        inner = ("if", "h", ("give", "t"), ("give", "c"))
        body = ("if", "a", ("case", "g", (("nil", (), ("give", "b")), ("cons", ("h", "t"), inner))), ("give", "d"))
        deeds = [
            ("a", ("num", -7)), ("b", ("op", "plus", "x", "a")), ("c", ("make", "cons", ("a", "b"))),
            ("d", ("call", "every", ("x", "y"))), ("e", ("func", "every", ())), ("g", ("ask", "e", ("x", "y"))),
        ]
        for name, done in reversed(deeds):
            body = ("let", name, done, body)
        self.assertEqual(read(EVERY_FORM), ((), (("every", ("x", "y"), body),)))

    def test_what_comes_is_tuples_texts_and_whole_numbers(self):
        for text in ("", GOOD_KIND, GOOD_DEF, f"{GOOD_KIND}\n{EVERY_FORM}"):
            with self.subTest(text=text):
                self.assertTrue(wholly_plain(read(text)))

    def test_programs_that_are_not_sound(self):
        for text in (
            "kind nil 0 nil 1\nkind nil 2",
            "def f x x = give y\ndef f = give x",
            "def f = let x make nil x x ; give y",
            "def f = case x s a a : give y s : give b end",
            "def f = let a call g a ; give b",
            "kind s 0 t 0\ndef f x = case x s : give x end",
        ):
            with self.subTest(text=text):
                self.assertEqual(told(read(text)), text)

    def test_names_of_words_that_held_code_and_answers_use(self):
        words = ("op", "hold", "drop", "loose", "look", "take", "told", "fault", "late", "box", "row")
        for word in words:
            self.assertEqual(read(f"def {word} {word} = give {word}"), ((), ((word, (word,), ("give", word)),)))

    def test_programs_of_every_form_by_their_text(self):
        for seed in range(400):
            program = Maker(seed).program()
            text = told(program)
            with self.subTest(text=text):
                self.assertEqual(read(text), program)
                self.assertTrue(wholly_plain(read(text)))
                self.assertIsNone(bad_row(text))


class Bounds(unittest.TestCase):
    def chain(self, text, step):
        """How many bodies lie one within another, going down by `step` to the first give."""
        body, many = one_def(text), 0
        while body[0] != "give":
            body, many = step(body), many + 1
        return many

    def test_lets_one_within_another(self):
        for many in (60, 61, 1500):
            with self.subTest(many=many):
                self.assertEqual(self.chain("let a num 0 " * many + "give a", lambda body: body[3]), many)

    def test_ifs_one_within_another(self):
        for many in (60, 61, 1200):
            with self.subTest(many=many):
                text = "if a " * many + "give a" + " else give b" * many
                self.assertEqual(self.chain(text, lambda body: body[2]), many)
                text = "if a give b else " * many + "give a"
                self.assertEqual(self.chain(text, lambda body: body[3]), many)

    def test_cases_one_within_another(self):
        for many in (60, 61, 1200):
            with self.subTest(many=many):
                text = "case a t : " * many + "give a" + " end" * many
                self.assertEqual(self.chain(text, lambda body: body[2][0][2]), many)
                text = "case a s : give b t : " * many + "give a" + " end" * many
                self.assertEqual(self.chain(text, lambda body: body[2][1][2]), many)

    def test_all_three_one_within_another(self):
        text = "let a num 0 if a case a s : " * 20 + "give a" + " end else give b" * 20
        body, many = one_def(text), 0
        while body[0] != "give":
            body, many = {"let": body[-1], "if": body[2], "case": body[2][0][-1]}[body[0]], many + 1
        self.assertEqual(many, 60)

    def test_rows_of_240_words(self):
        lets = "def f a b c = " + "let x num 1 " * 58 + "give a"
        ifs = "def f = " + "if a " * 47 + "give a" + " else give b" * 47
        cases = "def f a = " + "case a t : " * 46 + "let a num 0 give a" + " end" * 46
        for row in (lets, ifs, cases):
            with self.subTest(row=row):
                self.assertEqual(len(row.split(" ")), 240)
                self.assertEqual(told(read(row)), row)

    def test_a_kind_of_as_many_pairs_as_a_row_has_room_for(self):
        row = "kind" + " abc 1" * 119
        self.assertEqual(len(row.split(" ")), 239)
        self.assertEqual(read(row), (((("abc", 1),) * 119,), ()))

    def test_sixty_rows_and_more(self):
        for many in (30, 31, 200):
            with self.subTest(many=many):
                kinds, defs = read("\n".join([GOOD_KIND] * many + [GOOD_DEF] * many))
                self.assertEqual((len(kinds), len(defs)), (many, many))

    def test_texts_of_twenty_thousand_signs_and_more(self):
        row = "def f = " + "let abcdefghijkl num -123456789012345678901234567890 " * 5 + "give x"
        text = "\n".join([row] * 80)
        self.assertGreater(len(text), 20000)
        self.assertEqual(told(read(text)), text)

    def test_a_row_that_breaks_off_at_depth_is_refused(self):
        for text in ("let a num 0 " * 1500, "if a " * 3000, "case a t : " * 1500, "if a give b else " * 1000):
            with self.subTest(text=text[:20]):
                self.assertRaises(NoText, one_def, text + "give")


class Refuses(unittest.TestCase):
    def refused(self, text, row=0):
        with self.subTest(text=text):
            with self.assertRaises(NoText) as caught:
                read(text)
            self.assertEqual(caught.exception.row, row)
            self.assertIs(type(caught.exception.row), int)

    def refused_wherever_it_stands(self, row):
        """The row is refused alone, behind good rows, and where rows behind it are bad as well."""
        self.refused(row)
        self.refused(f"{GOOD_KIND}\n{row}", 1)
        self.refused(f"{GOOD_KIND}\n{GOOD_DEF}\n{row}\n{GOOD_DEF}", 2)
        self.refused(f"{GOOD_KIND}\n{row}\n{row}\nbad", 1)

    def test_what_is_no_text(self):
        for thing in (0, 7, -1, None, True, False, 1.5, [], ["def f = give x"], (), ("kind a 0",), {}, b"", b"kind a 0"):
            self.refused(thing)

    def test_a_list_handed_in_is_not_changed(self):
        thing = [["kind", "a", "0"]]
        self.refused(thing)
        self.assertEqual(thing, [["kind", "a", "0"]])

    def test_a_wrong_word_at_any_place(self):
        for row in (GOOD_KIND, GOOD_DEF, EVERY_FORM):
            words = row.split(" ")
            for place in range(len(words)):
                for wrong in ("", "X", "aB", "?", "==", "-", "01", "abcdefghijklm", "\t", "a\tb"):
                    self.refused_wherever_it_stands(" ".join(words[:place] + [wrong] + words[place + 1:]))

    def test_an_impossible_word_too_many_at_any_place(self):
        for row in (GOOD_KIND, GOOD_DEF, EVERY_FORM):
            words = row.split(" ")
            for place in range(len(words) + 1):
                for wrong in ("", "X", "?", "12", "def", "kind"):
                    self.refused_wherever_it_stands(" ".join(words[:place] + [wrong] + words[place:]))

    def test_a_row_that_breaks_off_at_any_place(self):
        words = EVERY_FORM.split(" ")
        for many in range(1, len(words)):
            self.refused_wherever_it_stands(" ".join(words[:many]))

    def test_words_that_lack_in_a_kind(self):
        for row in ("kind", "kind a", "kind 0", "kind a 0 b", "kind 0 a", "kind a a 0", "kind a 0 0", "a 0", "nil 0 cons 2"):
            self.refused_wherever_it_stands(row)

    def test_words_that_lack_in_a_def(self):
        for row in (
            "def", "def f", "def f =", "def = give x", "def f give x", "def f x", "f = give x", "give x",
            "def f = x", "def f = give", "def f = num 1", "def f = call g ;",
            "def f = let", "def f = let x", "def f = let x num 1", "def f = let num 1 give x", "def f = let x give x",
            "def f = let x num give x", "def f = let x 1 give x",
            "def f = let x plus give x", "def f = let x plus a give x", "def f = let x a b give x",
            "def f = let x make nil give x", "def f = let x make ; give x", "def f = let x nil ; give x",
            "def f = let x call g a give x", "def f = let x func g a b give x", "def f = let x ask g a give x",
            "def f = if", "def f = if x", "def f = if x give y", "def f = if x give y else",
            "def f = if give y else give z", "def f = if x else give z", "def f = if x give y give z",
            "def f = case", "def f = case x", "def f = case x nil : give y", "def f = case nil : give y end",
            "def f = case x nil give y end", "def f = case x : give y end", "def f = case x nil : end",
            "def f = case x nil : give y give z end", "def f = case x nil : give y : give z end",
        ):
            self.refused_wherever_it_stands(row)

    def test_words_too_many(self):
        for row in (
            "kind a 0 1", "kind a b 0", "kind a 0 ;", "kind a 0 end", "kind kind a 0",
            "def f = give x y", "def f = give x give x", "def f = give x end", "def f = give x else give y",
            "def f = give x ;", "def f = give x =", "def f = = give x", "def f x = y = give x",
            "def f = let x y num 1 give x", "def f = let x num 1 2 give x", "def f = let x num 1 ; give x",
            "def f = let x plus a b c give x", "def f = let x plus a b ; give x", "def f = let x make nil ; ; give x",
            "def f = let x num 1 num 2 give x", "def f = let x op plus a b give x",
            "def f = if x y give y else give z", "def f = if x give y else give z else give w",
            "def f = if x give y else else give z", "def f = if x give y else give z end",
            "def f = case x nil : give y end end", "def f = case x nil : : give y end", "def f = case x nil : give y ; end",
            "def f = case x nil : give y end give z", "def f = case x nil : give y else give z end",
        ):
            self.refused_wherever_it_stands(row)

    def test_a_word_of_the_language_is_no_name_anywhere(self):
        forms = (
            "kind {} 0", "kind a 0 {} 1", "def {} = give x", "def f {} = give x", "def f x {} = give x", "def f = give {}",
            "def f = let {} num 1 give x", "def f = let x plus {} b give x", "def f = let x plus a {} give x",
            "def f = let x make {} ; give x", "def f = let x call {} ; give x", "def f = let x func {} ; give x",
            "def f = let x ask {} ; give x", "def f = let x make t {} ; give x", "def f = let x call g a {} ; give x",
            "def f = let x func g {} b ; give x", "def f = let x ask g {} ; give x",
            "def f = if {} give y else give z", "def f = case {} nil : give y end", "def f = case x {} : give y end",
            "def f = case x cons {} t : give y end", "def f = case x cons h {} : give y end",
            "def f = case x nil : give y {} : give z end",
        )
        for form in forms:
            self.assertIsNotNone(read(form.format("good")))
            for word in LANGUAGE_WORDS + ["abcdefghijklm", "a1", "A", "1", "-", "_", ";", "=", ":", "a:", "a;"]:
                self.refused_wherever_it_stands(form.format(word))

    def test_blanks(self):
        for row in (GOOD_KIND, GOOD_DEF, EVERY_FORM):
            self.refused_wherever_it_stands(" " + row)
            self.refused_wherever_it_stands(row + " ")
            self.refused_wherever_it_stands("\t" + row)
            self.refused_wherever_it_stands(row + "\r")
            for place, sign in enumerate(row):
                if sign == " ":
                    self.refused_wherever_it_stands(row[:place] + " " + row[place:])
                    self.refused_wherever_it_stands(row[:place] + "\t" + row[place + 1:])

    def test_empty_rows(self):
        self.refused("\n")
        self.refused("\n\n")
        self.refused(" ")
        self.refused(f"\n{GOOD_DEF}")
        self.refused(f"{GOOD_DEF}\n", 1)
        self.refused(f"{GOOD_KIND}\n", 1)
        self.refused(f"{GOOD_KIND}\n\n{GOOD_DEF}", 1)
        self.refused(f"{GOOD_KIND}\n{GOOD_DEF}\n\n", 2)
        self.refused(f"{GOOD_KIND}\n \n{GOOD_DEF}", 1)

    def test_line_ends_of_other_sorts_part_no_rows(self):
        for sign in ("\r", "\r\n", "\x0b", "\x0c", "\x1c", "\x85", "\u2028"):
            self.refused(f"{GOOD_DEF}{sign}{GOOD_DEF}")
            self.refused(f"{GOOD_KIND}{sign}{GOOD_DEF}")

    def test_a_row_begun_by_another_word(self):
        for word in LANGUAGE_WORDS[2:] + ["", "Def", "DEF", "defs", "kinds", "kin", "de", "x", "=", "#"]:
            self.refused_wherever_it_stands(f"{word} f = give x")
            self.refused_wherever_it_stands(f"{word} nil 0")
        self.refused_wherever_it_stands("kind f = give x")
        self.refused_wherever_it_stands("def nil 0")

    def test_a_kind_behind_a_def(self):
        self.refused(f"{GOOD_DEF}\n{GOOD_KIND}", 1)
        self.refused(f"{GOOD_KIND}\n{GOOD_DEF}\n{GOOD_DEF}\n{GOOD_KIND}\n{GOOD_DEF}", 3)
        self.refused(f"{GOOD_DEF}\n{GOOD_KIND}\nbad", 1)
        self.refused(f"{GOOD_DEF}\nbad\n{GOOD_KIND}", 1)

    def test_the_first_bad_row_of_several(self):
        rows = [GOOD_KIND] * 3 + [GOOD_DEF] * 4
        for first in range(7):
            for second in range(first, 7):
                changed = list(rows)
                changed[first] = changed[second] = "def f = give"
                self.refused("\n".join(changed), first)

    def test_one_past_the_bounds_of_names(self):
        ten = "a b c d e f g h i j"
        self.refused_wherever_it_stands(f"def f {ten} = give x")
        self.refused_wherever_it_stands(f"def f = case x big {ten} : give y end")
        self.refused_wherever_it_stands(f"def f = case x nil : give y big {ten} : give y end")
        for word in NAMING_WORDS:
            self.refused_wherever_it_stands(f"def f = let x {word} r {ten} ; give x")

    def test_one_past_the_bounds_of_arms(self):
        self.refused_wherever_it_stands("def f = case x end")
        self.refused_wherever_it_stands("def f = case x " + "a : give y " * 21 + "end")
        self.refused_wherever_it_stands("def f = if a case x " + "a b : give y " * 21 + "end else give z")
        self.refused_wherever_it_stands("def f = case x a : case x " + "a : give y " * 21 + "end end")

    def test_one_past_the_bounds_of_sizes(self):
        for size in ("10", "00", "01", "99", "-1", "-0", "+1", "a", "", "\u00b2", "\u0663", "\uff11"):
            self.refused_wherever_it_stands(f"kind nil {size}")
            self.refused_wherever_it_stands(f"kind nil 0 cons {size}")
            self.refused_wherever_it_stands(f"kind nil {size} cons 2")

    def test_one_past_the_bounds_of_numbers(self):
        for number in (
            10 ** 30, -(10 ** 30), "00", "-0", "01", "-01", "-", "--1", "1-", "1_0", "+1", "", "1.0", "x", "\u0663", "9" * 5000
        ):
            self.refused_wherever_it_stands(f"def f = let x num {number} give x")

    def test_signs_of_other_scripts(self):
        for name in ("\u00e9", "a\u00e9", "\u00aa", "\u0430", "\uff41", "a\u0301"):
            self.refused_wherever_it_stands(f"kind {name} 0")
            self.refused_wherever_it_stands(f"def f = give {name}")
            self.refused_wherever_it_stands(f"def {name} = give x")


class EachOtherText(unittest.TestCase):
    """Texts one word off a program's, held against a judge that shares nothing with the reader."""

    VOCABULARY = LANGUAGE_WORDS + ["=", ":", ";", "0", "9", "10", "-1", "-0", "a", "zz", "Z", ""]

    def held_against_the_judge(self, text):
        row = bad_row(text)
        try:
            program = read(text)
        except NoText as refusal:
            self.assertEqual(refusal.row, row, text)
            return
        self.assertIsNone(row, text)
        self.assertEqual(told(program), text)
        self.assertTrue(wholly_plain(program), text)

    def changed(self, words):
        for place, word in enumerate(words):
            yield words[:place] + words[place + 1:]
            yield words[:place] + [word, word] + words[place + 1:]
            yield words[:place] + [word + "".join(words[place + 1:place + 2])] + words[place + 2:]
            yield words[:place] + words[place + 1:place + 2] + [word] + words[place + 2:]
            for other in self.VOCABULARY:
                yield words[:place] + [other] + words[place + 1:]
                yield words[:place] + [other] + words[place:]

    def test_one_word_off_every_form(self):
        for words in self.changed(EVERY_FORM.split(" ")):
            self.held_against_the_judge(f"{GOOD_KIND}\n{' '.join(words)}\n{GOOD_DEF}")

    def test_one_word_off_made_programs(self):
        for seed in range(20):
            rows = told(Maker(1000 + seed).program(depth=2)).split("\n")
            for at, row in enumerate(rows):
                for words in self.changed(row.split(" ")):
                    self.held_against_the_judge("\n".join(rows[:at] + [" ".join(words)] + rows[at + 1:]))

    def test_rows_put_elsewhere(self):
        for seed in range(60):
            rows = told(Maker(2000 + seed).program(depth=1)).split("\n")
            for at in range(len(rows)):
                for to in range(len(rows)):
                    others = rows[:at] + rows[at + 1:]
                    self.held_against_the_judge("\n".join(others[:to] + [rows[at]] + others[to:]))


class AskedAgain(unittest.TestCase):
    def test_the_same_comes_each_time_also_behind_a_refusal(self):
        text = f"{GOOD_KIND}\n{EVERY_FORM}"
        first = read(text)
        for bad in (None, text + " ", GOOD_DEF + "\n" + text, "def f = if a case x a : let b num 1"):
            rows = []
            for _ in range(3):
                with self.assertRaises(NoText) as caught:
                    read(bad)
                rows.append(caught.exception.row)
                self.assertEqual(read(text), first)
            self.assertEqual(len(set(rows)), 1)
        self.assertEqual(read(""), ((), ()))
        self.assertEqual(told(first), text)


if __name__ == "__main__":
    unittest.main()
