"""A heap that lets go of a box later, when it has time or wants room."""

from reusewise.heap import Heap

# So many that are gone may stand ahead of the row before it is cut.
MOST_GONE = 1000


class SlowHeap(Heap):
    def __init__(self, size):
        Heap.__init__(self, size)
        # The numbers of the boxes that wait begin at `first`: to take one off the begin of a long
        # list takes long.
        self.waiting = []
        self.first = 0

    def let_parts_go(self, at):
        self.waiting.append(at)

    def let_first_go(self):
        if self.first == len(self.waiting):
            return False
        box = self.by_number.pop(self.waiting[self.first])
        self.first = self.first + 1
        self.cut()
        for part in box.parts:
            self.let_go(part)
        return True

    def cut(self):
        if self.first > MOST_GONE and self.first + self.first > len(self.waiting):
            self.waiting = self.waiting[self.first:]
            self.first = 0

    def waits(self):
        return self.waiting[self.first:]
