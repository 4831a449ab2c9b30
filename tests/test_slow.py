import unittest

from reusewise.errors import Full, Gone
from reusewise.heap import Heap
from reusewise.slow import SlowHeap
from tests.helper import HeapDriver, PlainHeap, heap_refuses, heap_state


class SlowTest(unittest.TestCase):
    def refused(self, refusal, heap, method, *given):
        heap_refuses(self, refusal, heap, method, *given)


class Waits(SlowTest):
    def test_a_new_one_is_a_heap(self):
        self.assertTrue(issubclass(SlowHeap, Heap))
        heap = SlowHeap(7)
        self.assertIsInstance(heap, Heap)
        self.assertEqual(heap_state(heap), (7, 0, 0, 0, [], [], []))
        self.assertEqual(heap.work(5), 0)

    def test_at_nought_a_box_waits_with_its_parts_as_they_are(self):
        heap = SlowHeap(7)
        leaf = heap.make("leaf", [1])
        cons = heap.make("cons", [leaf, "nil"])
        heap.hold(cons)
        heap.let_go(cons)
        self.assertEqual((heap.waits(), heap.boxes()[1][3]), ([], 1))
        self.assertIsNone(heap.let_go(cons))
        self.assertEqual(heap_state(heap), (7, 2, 0, 2, [(0, "leaf", [1], 1), (1, "cons", [leaf, "nil"], 0)], [], [1]))

    def test_in_their_order(self):
        heap = SlowHeap(9)
        for number in range(5):
            heap.make("leaf", [number])
        for at in (3, 0, 4):
            heap.let_go(("box", at))
        self.assertEqual(heap.waits(), [3, 0, 4])
        self.assertEqual(heap.work(1), 1)
        self.assertEqual(heap.waits(), [0, 4])
        heap.let_go(("box", 1))
        self.assertEqual(heap.waits(), [0, 4, 1])

    def test_parts_begin_to_wait_the_first_part_first(self):
        heap = SlowHeap(9)
        parts = [heap.make("leaf", [number]) for number in range(3)]
        heap.hold(parts[1])
        other = heap.make("leaf", [9])
        top = heap.make("big", [parts[2], 5, parts[0], "nil", parts[1]])
        heap.let_go(top)
        heap.let_go(other)
        self.assertEqual(heap.waits(), [4, 3])
        self.assertEqual(heap.work(1), 1)
        self.assertEqual(heap.waits(), [3, 2, 0])
        self.assertEqual(heap.boxes()[1], (1, "leaf", [1], 1))

    def test_take_at_count_one_takes_at_once(self):
        heap = SlowHeap(9)
        leaf = heap.make("leaf", [1])
        self.assertEqual(heap.take(leaf, True), ([1], 0))
        self.assertEqual((heap.boxes(), heap.keeping(), heap.waits()), ([], [0], []))

    def test_a_part_held_twice_waits_once(self):
        heap = SlowHeap(9)
        leaf = heap.make("leaf", [1])
        heap.hold(leaf)
        heap.let_go(heap.make("cons", [leaf, leaf]))
        self.assertEqual(heap.work(1), 1)
        self.assertEqual(heap.waits(), [0])

    def test_waiting_boxes_are_gone(self):
        heap = SlowHeap(9)
        leaf = heap.make("leaf", [1])
        heap.let_go(leaf)
        for method in ("hold", "let_go", "look", "take"):
            self.refused(Gone, heap, method, leaf)
        self.refused(Gone, heap, "take", leaf, True)
        self.refused(Gone, heap, "hold", ("box", 7))

    def test_the_list_is_the_askers_own(self):
        heap = SlowHeap(9)
        heap.let_go(heap.make("leaf", [1]))
        heap.waits().clear()
        heap.boxes()[0][2].clear()
        self.assertEqual((heap.waits(), heap.boxes()), ([0], [(0, "leaf", [1], 0)]))


class Works(SlowTest):
    def waiting(self, many=6):
        heap = SlowHeap(99)
        for number in range(many):
            heap.let_go(heap.make("leaf", [number]))
        return heap

    def test_none_some_all_and_more(self):
        heap = self.waiting()
        self.assertEqual((heap.work(0), heap.waits()), (0, [0, 1, 2, 3, 4, 5]))
        self.assertEqual((heap.work(2), heap.waits()), (2, [2, 3, 4, 5]))
        self.assertEqual((heap.work(3), heap.waits()), (3, [5]))
        self.assertEqual((heap.work(10 ** 18), heap.waits(), heap.boxes()), (1, [], []))
        self.assertEqual(heap.work(10 ** 18), 0)
        self.assertEqual((heap.fresh, heap.anew, heap.peak), (6, 0, 6))

    def test_what_begins_to_wait_meanwhile_counts_too(self):
        heap = SlowHeap(99)
        value = "nil"
        for number in range(5):
            value = heap.make("cons", [number, value])
        heap.let_go(value)
        self.assertEqual((heap.work(3), heap.waits()), (3, [1]))
        self.assertEqual((heap.work(99), heap.boxes()), (2, []))

    def test_a_long_row(self):
        for many in (1000, 30000):
            heap = SlowHeap(many)
            value = "nil"
            for number in range(many):
                value = heap.make("cons", [number, value])
            heap.let_go(value)
            self.assertEqual(heap.waits(), [many - 1])
            self.assertEqual(heap.work(many - 1), many - 1)
            self.assertEqual((heap.waits(), heap.boxes()), ([0], [(0, "cons", [0, "nil"], 0)]))
            self.assertEqual(heap.work(5), 1)

    def test_many_that_wait_at_once(self):
        heap = SlowHeap(9000)
        for number in range(9000):
            heap.make("leaf", [number])
        for at in range(9000):
            heap.let_go(("box", at))
        for done in range(9000):
            self.assertEqual(heap.work(1), 1)
            if done % 500 == 499:
                self.assertEqual(heap.waits(), list(range(done + 1, 9000)))
        self.assertEqual(heap.work(1), 0)

    def test_a_make_lets_go_of_the_first_and_of_no_more(self):
        heap = SlowHeap(4)
        for number in range(4):
            heap.make("leaf", [number])
        for at in (2, 0, 1):
            heap.let_go(("box", at))
        self.assertEqual(heap.make("leaf", [9]), ("box", 4))
        self.assertEqual((heap.waits(), heap.peak), ([0, 1], 4))
        self.assertEqual(heap.make("leaf", [9]), ("box", 5))
        self.assertEqual(heap.make("leaf", [9]), ("box", 6))
        self.refused(Full, heap, "make", "leaf", [9])

    def test_a_make_that_has_room_lets_none_go(self):
        heap = SlowHeap(4)
        heap.let_go(heap.make("leaf", [1]))
        heap.make("leaf", [2])
        self.assertEqual(heap.waits(), [0])

    def test_waiting_boxes_go_ahead_of_kept_places(self):
        heap = SlowHeap(3)
        for number in range(3):
            heap.make("leaf", [number])
        heap.take(("box", 0), True)
        heap.let_go(("box", 2))
        heap.make("leaf", [9])
        self.assertEqual((heap.keeping(), heap.waits()), ([0], []))
        heap.make("leaf", [9])
        self.assertEqual((heap.keeping(), heap.waits()), ([], []))
        self.refused(Full, heap, "make", "leaf", [9], 0)

    def test_a_make_at_a_kept_place_lets_none_go(self):
        heap = SlowHeap(2)
        heap.make("leaf", [0])
        heap.make("leaf", [1])
        heap.take(("box", 0), True)
        heap.let_go(("box", 1))
        self.assertEqual(heap.make("leaf", [2], 0), ("box", 0))
        self.assertEqual(heap.waits(), [1])

    def test_waiting_boxes_count_for_the_peak(self):
        heap = SlowHeap(9)
        for number in range(5):
            heap.let_go(heap.make("leaf", [number]))
        self.assertEqual(heap.peak, 5)


class AgainstTheOther(SlowTest):
    def test_many_deeds_by_chance(self):
        for seed in range(200):
            size = (0, 1, 2, 4, 8, 30)[seed % 6]
            driver = HeapDriver(self, SlowHeap(size), PlainHeap(size, slow=True), seed)
            for _ in range(150):
                driver.go()


if __name__ == "__main__":
    unittest.main()
