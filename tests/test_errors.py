import copy
import pickle
import unittest

from reusewise.errors import (
    Fault, Full, Gone, Lacking, Misfit, NoText, NoValue, ReuseError, Twice, Unheld, Unknown,
)

# Each refusal with what it is made with, and the fields that it then has.
REFUSALS = [
    (NoText, (3,), {"row": 3}),
    (Twice, ("abc",), {"name": "abc"}),
    (Unknown, ("abc",), {"name": "abc"}),
    (Misfit, ("abc",), {"name": "abc"}),
    (Unheld, ("abc",), {"name": "abc"}),
    (Lacking, ("abc", ["nil", "cons"]), {"name": "abc", "tags": ["nil", "cons"]}),
    (NoValue, (), {}),
    (Gone, (), {}),
    (Full, (), {}),
    (Fault, ("nought",), {"word": "nought"}),
]


class Refusals(unittest.TestCase):
    def test_each_has_its_fields_and_no_others(self):
        for made, given, fields in REFUSALS:
            with self.subTest(made.__name__):
                self.assertEqual(vars(made(*given)), fields)

    def test_fields_are_what_was_handed_in_at_the_edges(self):
        self.assertEqual(NoText(0).row, 0)
        self.assertEqual(Twice("").name, "")
        self.assertEqual(Fault("").word, "")
        self.assertEqual(Lacking("x", []).tags, [])

    def test_each_needs_its_fields(self):
        for made, given, _ in REFUSALS:
            if given:
                with self.subTest(made.__name__):
                    self.assertRaises(TypeError, made, *given[:-1])

    def test_each_is_a_reuse_error_and_a_value_error(self):
        self.assertTrue(issubclass(ReuseError, ValueError))
        for made, given, _ in REFUSALS:
            with self.subTest(made.__name__):
                self.assertIsInstance(made(*given), ReuseError)
                self.assertIsInstance(made(*given), ValueError)

    def test_none_is_another(self):
        for made, given, _ in REFUSALS:
            for other, _, _ in REFUSALS:
                with self.subTest(made.__name__, other=other.__name__):
                    self.assertEqual(isinstance(made(*given), other), made is other)

    def test_each_is_raised_and_taken_by_its_own_name_and_by_reuse_error(self):
        for made, given, fields in REFUSALS:
            for taken in (made, ReuseError, ValueError):
                with self.subTest(made.__name__, taken=taken.__name__):
                    with self.assertRaises(taken) as caught:
                        raise made(*given)
                    self.assertEqual(vars(caught.exception), fields)

    def test_a_copy_has_the_same_fields(self):
        for made, given, fields in REFUSALS:
            with self.subTest(made.__name__):
                self.assertEqual(vars(copy.copy(made(*given))), fields)
                self.assertEqual(vars(pickle.loads(pickle.dumps(made(*given)))), fields)

    def test_a_list_changed_later_changes_no_refusal(self):
        tags = ["nil", "cons"]
        first = Lacking("x", tags)
        tags.append("leaf")
        self.assertEqual(first.tags, ["nil", "cons"])
        shown = str(first)
        first.tags.clear()
        self.assertEqual(tags, ["nil", "cons", "leaf"])
        tags.clear()
        self.assertEqual(str(first), shown)

    def test_a_reuse_error_can_be_made_by_itself(self):
        self.assertNotIsInstance(ReuseError(), tuple(made for made, _, _ in REFUSALS))


if __name__ == "__main__":
    unittest.main()
