import copy
import unittest

from reusewise.errors import Full, Gone
from reusewise.heap import Heap
from tests.helper import HeapDriver, PlainHeap, heap_refuses, heap_state

NOT_BOXES = (0, 7, -3, 10 ** 29, "nil", "func f 0", "")


class HeapTest(unittest.TestCase):
    def refused(self, refusal, heap, method, *given):
        heap_refuses(self, refusal, heap, method, *given)


class New(HeapTest):
    def test_a_new_heap(self):
        for size in (0, 1, 5, 10 ** 18):
            self.assertEqual(heap_state(Heap(size)), (size, 0, 0, 0, [], [], []))
            self.assertEqual(Heap(size).work(5), 0)

    def test_heaps_are_apart(self):
        one, other = Heap(5), Heap(5)
        one.make("leaf", [1])
        self.assertEqual(heap_state(other), (5, 0, 0, 0, [], [], []))


class Makes(HeapTest):
    def test_without_parts(self):
        heap = Heap(0)
        self.assertEqual(heap.make("nil", []), "nil")
        self.assertEqual(heap.make("func f 0", []), "func f 0")
        self.assertEqual(heap_state(heap), (0, 0, 0, 0, [], [], []))

    def test_without_parts_at_a_kept_place(self):
        heap = Heap(1)
        heap.take(heap.make("leaf", [1]), True)
        self.assertEqual(heap.make("nil", [], 0), "nil")
        self.assertEqual(heap_state(heap), (1, 1, 0, 1, [], [0], []))

    def test_fresh_numbers(self):
        heap = Heap(5)
        self.assertEqual(heap.make("leaf", [7]), ("box", 0))
        self.assertEqual(heap.make("cons", [1, ("box", 0)]), ("box", 1))
        self.assertEqual(heap.make("func f 2", ["nil", 3], None), ("box", 2))
        self.assertEqual(heap_state(heap), (5, 3, 0, 3, [
            (0, "leaf", [7], 1), (1, "cons", [1, ("box", 0)], 1), (2, "func f 2", ["nil", 3], 1)], [], []))
        heap.let_go(("box", 2))
        self.assertEqual(heap.make("leaf", [1]), ("box", 3))
        self.assertEqual((heap.fresh, heap.anew, heap.peak), (4, 0, 3))

    def test_counts_of_the_parts_stay(self):
        heap = Heap(5)
        leaf = heap.make("leaf", [7])
        heap.make("cons", [leaf, 1])
        self.assertEqual(heap.boxes()[0][3], 1)

    def test_at_a_kept_place(self):
        heap = Heap(3)
        for number in range(3):
            heap.make("leaf", [number])
        self.assertEqual(heap.take(("box", 1), True), ([1], 1))
        self.assertEqual(heap.make("cons", [4, 5], 1), ("box", 1))
        self.assertEqual(heap_state(heap), (3, 3, 1, 3, [
            (0, "leaf", [0], 1), (1, "cons", [4, 5], 1), (2, "leaf", [2], 1)], [], []))

    def test_at_a_place_that_is_kept_no_more_or_never_was(self):
        heap = Heap(9)
        heap.make("leaf", [0])
        heap.take(("box", 0), True)
        self.assertEqual(heap.make("leaf", [1], 0), ("box", 0))
        self.assertEqual(heap.make("leaf", [2], 0), ("box", 1))
        self.assertEqual(heap.make("leaf", [3], 1), ("box", 2))
        self.assertEqual(heap.make("leaf", [4], 77), ("box", 3))
        self.assertEqual(heap.make("leaf", [4], -1), ("box", 4))
        heap.take(("box", 2), True)
        heap.loose(2)
        self.assertEqual(heap.make("leaf", [5], 2), ("box", 5))
        self.assertEqual((heap.fresh, heap.anew), (6, 1))

    def test_a_full_heap(self):
        for size in (0, 1, 3):
            heap = Heap(size)
            for number in range(size):
                heap.make("leaf", [number])
            self.refused(Full, heap, "make", "leaf", [9])
            self.refused(Full, heap, "make", "leaf", [9], 0)
            self.assertEqual(heap.make("nil", []), "nil")
            if size:
                heap.let_go(("box", 0))
                self.assertEqual(heap.make("leaf", [9]), ("box", size))

    def test_kept_places_are_given_up_the_least_first(self):
        heap = Heap(4)
        for number in range(4):
            heap.make("leaf", [number])
        for at in (2, 0, 3):
            heap.take(("box", at), True)
        self.assertEqual(heap.keeping(), [0, 2, 3])
        self.assertEqual(heap.make("leaf", [4]), ("box", 4))
        self.assertEqual(heap.keeping(), [2, 3])
        self.assertEqual(heap.make("leaf", [5], 0), ("box", 5))
        self.assertEqual(heap.keeping(), [3])
        self.assertEqual(heap.make("leaf", [6], 3), ("box", 3))
        self.assertEqual(heap.keeping(), [])
        self.refused(Full, heap, "make", "leaf", [7], 2)
        self.assertEqual((heap.fresh, heap.anew, heap.peak), (6, 1, 4))

    def test_kept_places_stay_while_there_is_room(self):
        heap = Heap(3)
        heap.take(heap.make("leaf", [1]), True)
        heap.make("leaf", [2])
        self.assertEqual(heap.keeping(), [0])
        heap.make("leaf", [3])
        self.assertEqual(heap.keeping(), [0])
        heap.make("leaf", [4])
        self.assertEqual(heap.keeping(), [])

    def test_a_kept_place_that_is_handed_in_is_not_the_one_given_up(self):
        heap = Heap(2)
        heap.make("leaf", [0])
        heap.make("leaf", [1])
        heap.take(("box", 0), True)
        heap.take(("box", 1), True)
        self.assertEqual(heap.make("leaf", [2], 0), ("box", 0))
        self.assertEqual(heap.keeping(), [1])

    def test_peak(self):
        heap = Heap(9)
        for number in range(4):
            heap.make("leaf", [number])
        for at in range(3):
            heap.let_go(("box", at))
        self.assertEqual(heap.peak, 4)
        heap.make("leaf", [9])
        self.assertEqual(heap.peak, 4)
        heap.take(("box", 3), True)
        self.assertEqual(heap.peak, 4)
        for number in range(4):
            heap.make("leaf", [number])
        self.assertEqual(heap.peak, 5)


class Counts(HeapTest):
    def test_numbers_and_tags_are_passed_over(self):
        heap = Heap(3)
        heap.make("leaf", [1])
        before = heap_state(heap)
        for value in NOT_BOXES:
            self.assertIsNone(heap.hold(value))
            self.assertIsNone(heap.let_go(value))
            self.assertEqual(heap.take(value), ([], None))
            self.assertEqual(heap.take(value, True), ([], None))
            self.assertEqual(heap.look(value), (value if isinstance(value, str) else "", []))
        self.assertEqual(heap_state(heap), before)

    def test_hold_and_let_go(self):
        heap = Heap(3)
        leaf = heap.make("leaf", [1])
        self.assertIsNone(heap.hold(leaf))
        self.assertIsNone(heap.hold(leaf))
        self.assertEqual(heap.boxes(), [(0, "leaf", [1], 3)])
        for count in (2, 1):
            self.assertIsNone(heap.let_go(leaf))
            self.assertEqual(heap.boxes(), [(0, "leaf", [1], count)])
        heap.let_go(leaf)
        self.assertEqual(heap_state(heap), (3, 1, 0, 1, [], [], []))

    def test_a_box_goes_with_all_that_it_alone_held(self):
        heap = Heap(9)
        shared = heap.make("leaf", [1])
        heap.hold(shared)
        alone = heap.make("leaf", [2])
        top = heap.make("big", [shared, alone, 5, "nil", heap.make("leaf", [heap.make("leaf", [3])])])
        heap.let_go(top)
        self.assertEqual(heap.boxes(), [(0, "leaf", [1], 1)])

    def test_a_part_held_twice_by_the_same_box(self):
        heap = Heap(9)
        leaf = heap.make("leaf", [1])
        heap.hold(leaf)
        top = heap.make("cons", [leaf, leaf])
        heap.let_go(top)
        self.assertEqual(heap.boxes(), [])

    def test_a_long_row_let_go_at_once(self):
        for many in (1000, 100000):
            heap = Heap(many)
            value = "nil"
            for number in range(many):
                value = heap.make("cons", [number, value])
            self.assertEqual((heap.peak, heap.fresh), (many, many))
            heap.let_go(value)
            self.assertEqual((heap.boxes(), heap.keeping(), heap.waits()), ([], [], []))
            value = "nil"
            for number in range(many):
                value = heap.make("cons", [value, number])
            heap.let_go(value)
            self.assertEqual(heap.boxes(), [])

    def test_look(self):
        heap = Heap(3)
        leaf = heap.make("leaf", [1])
        self.assertEqual(heap.look(leaf), ("leaf", [1]))
        cons = heap.make("func f 2", [leaf, "nil"])
        self.assertEqual(heap.look(cons), ("func f 2", [leaf, "nil"]))
        self.assertEqual(heap.look("func f 0"), ("func f 0", []))
        self.assertEqual(heap.look(5), ("", []))


class Takes(HeapTest):
    def test_at_count_one(self):
        heap = Heap(3)
        leaf = heap.make("leaf", [1])
        cons = heap.make("cons", [leaf, 5])
        self.assertEqual(heap.take(cons), ([leaf, 5], None))
        self.assertEqual((heap.boxes(), heap.keeping()), ([(0, "leaf", [1], 1)], []))
        self.assertEqual(heap.take(leaf, False), ([1], None))
        self.assertEqual((heap.boxes(), heap.keeping()), ([], []))

    def test_at_count_one_keeping_the_place(self):
        heap = Heap(3)
        leaf = heap.make("leaf", [1])
        cons = heap.make("cons", [leaf, 5])
        self.assertEqual(heap.take(cons, True), ([leaf, 5], 1))
        self.assertEqual(heap.take(leaf, keep=True), ([1], 0))
        self.assertEqual((heap.boxes(), heap.keeping()), ([], [0, 1]))

    def test_at_more(self):
        heap = Heap(3)
        leaf = heap.make("leaf", [1])
        cons = heap.make("cons", [leaf, "nil"])
        heap.hold(cons)
        for keep in (True, False):
            self.assertEqual(heap.take(cons, keep), ([leaf, "nil"], None))
            self.assertEqual(heap.boxes(), [(0, "leaf", [1], 2), (1, "cons", [leaf, "nil"], 1)])
            heap.let_go(leaf)
            heap.hold(cons)
        self.assertEqual(heap.keeping(), [])

    def test_loose(self):
        heap = Heap(3)
        for number in range(3):
            heap.take(heap.make("leaf", [number]), True)
        for kept in (None, 7, -1):
            self.assertIsNone(heap.loose(kept))
            self.assertEqual(heap.keeping(), [0, 1, 2])
        self.assertIsNone(heap.loose(1))
        self.assertEqual(heap.keeping(), [0, 2])
        heap.loose(1)
        heap.loose(0)
        self.assertEqual(heap.keeping(), [2])
        box = heap.make("leaf", [1])
        heap.loose(box[1])
        self.assertEqual(heap.boxes(), [(3, "leaf", [1], 1)])


class Gones(HeapTest):
    def test_a_box_that_is_gone_or_never_was(self):
        heap = Heap(9)
        for number in range(4):
            heap.make("leaf", [number])
        heap.let_go(("box", 0))
        heap.take(("box", 1))
        heap.take(("box", 2), True)
        for at in (0, 1, 2, 4, -1, 10 ** 20):
            for method in ("hold", "let_go", "look", "take"):
                self.refused(Gone, heap, method, ("box", at))
            self.refused(Gone, heap, "take", ("box", at), True)

    def test_a_number_used_anew_is_there_again(self):
        heap = Heap(9)
        heap.take(heap.make("leaf", [1]), True)
        heap.make("cons", [2, 3], 0)
        self.assertEqual(heap.look(("box", 0)), ("cons", [2, 3]))


class ListsAreOnesOwn(HeapTest):
    def test_those_handed_in(self):
        heap = Heap(9)
        parts = [1, "nil"]
        heap.make("cons", parts)
        self.assertEqual(parts, [1, "nil"])
        parts.append(5)
        parts[0] = 9
        self.assertEqual(heap.boxes(), [(0, "cons", [1, "nil"], 1)])
        heap.take(("box", 0), True)
        heap.make("cons", parts, 0)
        parts.clear()
        self.assertEqual(heap.boxes(), [(0, "cons", [9, "nil", 5], 1)])

    def test_those_told(self):
        heap = Heap(9)
        cons = heap.make("cons", [1, "nil"])
        heap.hold(cons)
        heap.take(heap.make("leaf", [1]), True)
        before = copy.deepcopy(heap_state(heap))
        heap.look(cons)[1].clear()
        heap.look(5)[1].append(1)
        heap.look("nil")[1].append(1)
        heap.boxes()[0][2].clear()
        heap.boxes().clear()
        heap.keeping().clear()
        heap.waits().append(3)
        heap.take("nil")[0].append(1)
        self.assertEqual(heap_state(heap), before)
        self.assertEqual((heap.look(5), heap.look("nil"), heap.take("nil")), (("", []), ("nil", []), ([], None)))
        heap.take(cons)[0].clear()
        self.assertEqual(heap.look(cons), ("cons", [1, "nil"]))


class AgainstTheOther(HeapTest):
    def test_many_deeds_by_chance(self):
        for seed in range(150):
            size = (0, 1, 2, 4, 8, 30)[seed % 6]
            driver = HeapDriver(self, Heap(size), PlainHeap(size), seed)
            for _ in range(120):
                driver.go()


if __name__ == "__main__":
    unittest.main()
