import unittest

from reusewise.walk import worked_out


class WorkedOut(unittest.TestCase):
    def test_tasks_within_are_done_in_their_order_and_handed_up(self):
        met = []

        def begin(task):
            met.append(task[0])
            return list(task[1:]), lambda results: (task[0], *results)

        tree = ("a", ("b", ("c",), ("d",)), ("e",), ("f", ("g",)))
        self.assertEqual(worked_out(tree, begin), tree)
        self.assertEqual("".join(met), "abcdefg")

    def test_no_depth_fells_it(self):
        def begin(task):
            return ([task - 1] if task else []), lambda results: sum(results) + 1

        self.assertEqual(worked_out(100000, begin), 100001)

    def test_what_begin_raises_comes_through(self):
        def begin(task):
            raise KeyError(task)

        self.assertRaises(KeyError, worked_out, 1, begin)


if __name__ == "__main__":
    unittest.main()
