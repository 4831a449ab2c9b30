import copy
import unittest

from reusewise.shapes import lacking, sizes

KINDS = ((("nil", 0), ("cons", 2)), (("leaf", 1), ("fork", 3), ("bud", 0), ("big", 9)), (("one", 0),))


class Sizes(unittest.TestCase):
    def told(self, kinds, pairs):
        found = sizes(kinds)
        self.assertIs(type(found), dict)
        self.assertEqual(list(found.items()), pairs)

    def test_no_kinds(self):
        self.told((), [])

    def test_one_kind(self):
        self.told(((("nil", 0),),), [("nil", 0)])
        self.told(((("nil", 0), ("cons", 2)),), [("nil", 0), ("cons", 2)])

    def test_several_kinds_in_their_order(self):
        self.told(KINDS, [pair for kind in KINDS for pair in kind])
        self.told(KINDS[::-1], [pair for kind in KINDS[::-1] for pair in kind])

    def test_sixty_kinds(self):
        names = [a + b for a in "zyxwvu" for b in "abcdefghij"]
        kinds = tuple(((name, place % 10), (name + "q", 9 - place % 10)) for place, name in enumerate(names))
        self.assertEqual(len(kinds), 60)
        self.told(kinds, [pair for kind in kinds for pair in kind])

    def test_what_is_done_to_the_dict_changes_nothing(self):
        kinds = copy.deepcopy(KINDS)
        first = sizes(kinds)
        first["nil"] = 7
        first.pop("cons")
        first["new"] = 1
        self.assertEqual(kinds, KINDS)
        self.told(kinds, [pair for kind in KINDS for pair in kind])


class Lacking(unittest.TestCase):
    def told(self, tags, answer):
        handed = list(tags)
        for _ in range(2):
            found = lacking(KINDS, handed)
            self.assertIs(type(found), list)
            self.assertEqual(found, answer)
            self.assertEqual(handed, tags)
            found.append("more")

    def test_all_are_among_them(self):
        self.told(["nil", "cons"], [])
        self.told(["cons", "nil"], [])
        self.told(["big", "leaf", "bud", "fork"], [])
        self.told(["one"], [])

    def test_some_are_among_them(self):
        self.told(["nil"], ["cons"])
        self.told(["cons"], ["nil"])
        self.told(["big"], ["leaf", "fork", "bud"])
        self.told(["bud", "leaf"], ["fork", "big"])
        self.told(["fork", "big", "bud"], ["leaf"])

    def test_none_but_the_first_are_among_them(self):
        self.told(["leaf", "nil", "cons", "one"], ["fork", "bud", "big"])

    def test_tags_of_other_kinds_and_names_that_are_none(self):
        self.told(["cons", "leaf", "fork", "zzz"], ["nil"])
        self.told(["one", "zzz", "nil"], [])
        self.told(["leaf", "cons", "zzz", "big"], ["fork", "bud"])

    def test_a_name_that_comes_twice(self):
        self.told(["nil", "nil"], ["cons"])
        self.told(["leaf", "big", "leaf", "big", "zzz", "zzz"], ["fork", "bud"])
        self.told(["cons", "nil", "cons"], [])

    def test_the_list_told_is_new_each_time(self):
        kinds = copy.deepcopy(KINDS)
        first = lacking(kinds, ["leaf"])
        first.clear()
        self.assertEqual(lacking(kinds, ["leaf"]), ["fork", "bud", "big"])
        self.assertEqual(kinds, KINDS)


if __name__ == "__main__":
    unittest.main()
