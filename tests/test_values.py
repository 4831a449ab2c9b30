import unittest

from reusewise.errors import (
    Fault, Full, Gone, Lacking, Misfit, NoText, NoValue, ReuseError, Twice, Unheld, Unknown,
)
from reusewise.values import grown, is_whole, parts_of

KINDS = ((("nil", 0), ("cons", 2)), (("big", 9), ("leaf", 1), ("bud", 0)))
NIL = ("nil", ())
GREATEST = 10 ** 30 - 1


def row_of(numbers, tail=NIL):
    for number in reversed(numbers):
        tail = ("cons", (number, tail))
    return tail


class IsWhole(unittest.TestCase):
    def test_numbers_of_any_size(self):
        for number in (0, 1, -1, GREATEST, -GREATEST, 10 ** 30, -(10 ** 30), 10 ** 1000, -(10 ** 1000)):
            self.assertIs(is_whole(number), True)

    def test_truths_are_none(self):
        self.assertIs(is_whole(True), False)
        self.assertIs(is_whole(False), False)

    def test_other_things_are_none(self):
        things = (
            None, "", "0", "1", [], [1], (), (1,), {}, {1: 1}, 0.0, 1.0, 1.5, float("nan"), b"1", {1}, 1j, object(), int,
            len, ("box", 0), range(1),
        )
        for thing in things:
            self.assertIs(is_whole(thing), False, repr(thing))


class Grown(unittest.TestCase):
    def grows(self, parts, value):
        handed = list(parts)
        found = grown(KINDS, handed)
        self.assertEqual(found, value)
        self.assertEqual(handed, parts)
        self.assertEqual(grown(KINDS, parts), value)
        self.assertEqual(parts_of(found), parts[:100])

    def refused(self, parts, kinds=KINDS):
        for _ in range(2):
            with self.assertRaises(NoValue) as caught:
                grown(kinds, parts)
            self.assertIsInstance(caught.exception, ReuseError)
            for other in (Fault, Full, Gone, Lacking, Misfit, NoText, Twice, Unheld, Unknown):
                self.assertNotIsInstance(caught.exception, other)

    def test_numbers(self):
        for number in (0, 1, -1, GREATEST, -GREATEST):
            self.grows([number], number)
            self.assertIs(type(grown(KINDS, [number])), int)
            self.assertEqual(grown((), [number]), number)

    def test_shapes_without_parts(self):
        self.grows(["nil"], NIL)
        self.grows(["bud"], ("bud", ()))

    def test_shapes_with_parts(self):
        self.grows(["leaf", 5], ("leaf", (5,)))
        self.grows(["cons", 1, "nil"], ("cons", (1, NIL)))
        self.grows(["cons", "nil", 1], ("cons", (NIL, 1)))
        self.grows(["big", 1, 2, 3, 4, 5, 6, 7, 8, 9], ("big", (1, 2, 3, 4, 5, 6, 7, 8, 9)))
        self.grows(
            ["cons", "cons", 1, "nil", "leaf", "cons", 2, 3], ("cons", (("cons", (1, NIL)), ("leaf", (("cons", (2, 3)),))))
        )

    def test_a_shape_of_nine_shapes_in_their_order(self):
        parts = ["big"]
        for number in range(9):
            parts += ["cons", number, "nil"]
        self.grows(parts, ("big", tuple(row_of([number]) for number in range(9))))

    def test_a_hundred_deep_in_the_last_part(self):
        parts = [thing for number in range(100) for thing in ("cons", number)] + ["nil"]
        self.grows(parts, row_of(range(100)))

    def test_a_hundred_deep_in_the_first_part(self):
        value = NIL
        for number in reversed(range(100)):
            value = ("cons", (value, number))
        self.grows(["cons"] * 100 + ["nil"] + list(range(99, -1, -1)), value)

    def test_several_hundred_and_thousands_deep(self):
        for many in (300, 700, 20000):
            last = grown(KINDS, [thing for number in range(many) for thing in ("cons", number)] + ["nil"])
            first = grown(KINDS, ["cons"] * many + ["nil"] + list(range(many)))
            leaves = grown(KINDS, ["leaf"] * many + [7])
            for number in range(many):
                self.assertEqual((last[0], last[1][0]), ("cons", number))
                self.assertEqual((first[0], first[1][1]), ("cons", many - 1 - number))
                self.assertEqual(leaves[0], "leaf")
                last, first, leaves = last[1][1], first[1][0], leaves[1][0]
            self.assertEqual((last, first, leaves), (NIL, NIL, 7))

    def test_what_grows_is_tuples_throughout(self):
        left = [grown(KINDS, ["cons", "leaf", 1, "cons", "nil", "bud"])]
        while left:
            value = left.pop()
            if type(value) is not int:
                self.assertEqual((type(value), type(value[0]), type(value[1]), len(value)), (tuple, str, tuple, 2))
                left.extend(value[1])

    def test_a_part_that_lacks(self):
        for parts in ([], ["leaf"], ["cons"], ["cons", 1], ["cons", "nil"], ["cons", "cons", 1, 2], ["cons", 1, "leaf"]):
            self.refused(parts)
        self.refused(["big"] + [1] * 8)

    def test_a_part_too_many(self):
        for parts in ([1, 2], ["nil", "nil"], ["nil", 1], [1, "nil"], ["leaf", 1, 2], ["cons", 1, 2, 3]):
            self.refused(parts)
        self.refused(["big"] + [1] * 10)

    def test_parts_that_lack_and_are_too_many(self):
        self.refused([1, "leaf"])
        self.refused(["nil", "cons", 1])
        self.refused([1, 2, "cons"])

    def test_an_unknown_tag(self):
        for tag in ("zzz", "Nil", "nil ", " nil", "", "nill", "box", "num"):
            self.refused([tag])
            self.refused(["leaf", tag])
            self.refused(["cons", tag, 1])
            self.refused([tag, 1])
        self.refused(["nil"], ())

    def test_a_function_values_tag(self):
        self.refused(["func f 0"])
        self.refused(["func f 1", 1])
        self.refused(["leaf", "func f 0"])
        self.refused(["func"])

    def test_a_text_of_figures(self):
        for text in ("0", "1", "-1", "12"):
            self.refused([text])
            self.refused(["leaf", text])

    def test_numbers_beyond_the_bounds(self):
        for number in (10 ** 30, -(10 ** 30), 10 ** 31, -(10 ** 100)):
            self.refused([number])
            self.refused(["leaf", number])
            self.refused(["cons", 1, number])

    def test_other_things(self):
        for thing in (True, False, None, [], [1], ["nil"], (), (1,), NIL, {}, {"nil": 0}, 1.0, b"nil", {1}):
            self.refused([thing])
            self.refused(["leaf", thing])
            self.refused(["cons", thing, "nil"])
            self.refused(["cons", 1, thing])

    def test_no_list_at_all(self):
        for thing in (None, 1, True, "nil", "", (), (1,), ("nil",), NIL, {}, {"nil": 0}, {0: "nil"}, 1.0):
            self.refused(thing)


class PartsOf(unittest.TestCase):
    def told(self, value, parts):
        found = parts_of(value)
        self.assertIs(type(found), list)
        self.assertEqual(found, parts[:100])
        found.append("more")
        for most in (0, 1, 2, 3, 99, 100, 101, 300):
            self.assertEqual(parts_of(value, most), parts[:most])
            self.assertEqual(parts_of(value, most=most), parts[:most])

    def test_numbers(self):
        for number in (0, -1, GREATEST, -GREATEST):
            self.told(number, [number])

    def test_shapes(self):
        self.told(NIL, ["nil"])
        self.told(row_of([1, 2]), ["cons", 1, "cons", 2, "nil"])
        self.told(("cons", (row_of([1]), 2)), ["cons", "cons", 1, "nil", 2])
        self.told(("big", tuple(range(9))), ["big", *range(9)])

    def test_function_values(self):
        self.told(("func f 0", ()), ["func f 0"])
        self.told(("func f 2", (1, NIL)), ["func f 2", 1, "nil"])
        self.told(("cons", (("func g 1", (("func f 0", ()),)), 3)), ["cons", "func g 1", "func f 0", 3])

    def test_just_a_hundred_parts_and_one_more(self):
        self.told(row_of(range(49), ("leaf", (7,))), [t for n in range(49) for t in ("cons", n)] + ["leaf", 7])
        self.told(row_of(range(50)), [thing for number in range(50) for thing in ("cons", number)] + ["nil"])

    def test_three_hundred_and_more(self):
        self.told(row_of(range(400)), [thing for number in range(400) for thing in ("cons", number)] + ["nil"])

    def test_parts_shared_so_often_that_they_cannot_all_be_told(self):
        value = NIL
        for _ in range(400):
            value = ("cons", (value, value))
        self.told(value, ["cons"] * 300)
        value = 5
        for _ in range(7):
            value = ("big", (value,) * 9)
        one = ["big"] + [5] * 9
        self.assertEqual(parts_of(value, 100), ["big"] * 6 + one * 9 + ["big"] + one[:3])

    def test_deep_values(self):
        last = row_of(range(100000))
        self.told(last, [thing for number in range(150) for thing in ("cons", number)])
        first = NIL
        for number in range(100000):
            first = ("cons", (first, number))
        self.told(first, ["cons"] * 300)

    def test_there_and_back(self):
        for many in range(0, 34):
            parts = [thing for number in range(many) for thing in ("cons", "leaf", number)] + ["nil"]
            self.assertEqual(parts_of(grown(KINDS, parts)), parts[:100])
            parts = ["cons"] * many + ["bud"] + list(range(many))
            self.assertEqual(parts_of(grown(KINDS, parts)), parts)


if __name__ == "__main__":
    unittest.main()
