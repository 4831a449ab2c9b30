"""A heap: boxes with counts of their holders, and kept places."""

from reusewise.errors import Full, Gone


class Box:
    def __init__(self, tag, parts):
        self.tag = tag
        self.parts = list(parts)
        self.count = 1


# Numbers, each once. They are kept in rising order, for the least is asked for often.
class Rising:
    def __init__(self):
        self.numbers = []

    # Where the number is, or would be.
    def place_of(self, number):
        low = 0
        high = len(self.numbers)
        while low < high:
            middle = (low + high) // 2
            if self.numbers[middle] < number:
                low = middle + 1
            else:
                high = middle
        return low

    def add(self, number):
        self.numbers.insert(self.place_of(number), number)

    # Whether it was there.
    def discard(self, number):
        at = self.place_of(number)
        if at == len(self.numbers) or self.numbers[at] != number:
            return False
        self.numbers.pop(at)
        return True


def is_box(value):
    return isinstance(value, tuple)


class Heap:
    def __init__(self, size):
        self.size = size
        self.fresh = 0
        self.anew = 0
        self.peak = 0
        self.by_number = {}
        self.kept_places = Rising()

    def make(self, tag, parts, kept=None):
        if len(parts) == 0:
            return tag
        at = self.place_for_one(kept)
        self.by_number[at] = Box(tag, parts)
        self.peak = max(self.peak, len(self.by_number))
        return ("box", at)

    def place_for_one(self, kept):
        if kept is not None and self.kept_places.discard(kept):
            self.anew = self.anew + 1
            return kept
        if len(self.by_number) + len(self.kept_places.numbers) >= self.size:
            self.make_room()
        self.fresh = self.fresh + 1
        return self.fresh - 1

    def make_room(self):
        if self.work(1) == 1:
            return
        if len(self.kept_places.numbers) == 0:
            raise Full()
        self.kept_places.discard(self.kept_places.numbers[0])

    def hold(self, value):
        if is_box(value):
            box = self.there(value)
            box.count = box.count + 1

    def let_go(self, value):
        if is_box(value) and self.lessened(value) == 0:
            self.let_parts_go(value[1])

    # The box of a value. One that waits has the count 0.
    def there(self, value):
        box = self.by_number.get(value[1], None)
        if box is None or box.count == 0:
            raise Gone()
        return box

    def lessened(self, value):
        box = self.there(value)
        box.count = box.count - 1
        return box.count

    # Boxes that are still to go are kept in a list, so that no row of them is too long for it.
    def let_parts_go(self, at):
        left = [at]
        while len(left) > 0:
            box = self.by_number.pop(left.pop())
            for part in box.parts:
                if is_box(part) and self.lessened(part) == 0:
                    left.append(part[1])

    def loose(self, kept):
        if kept is not None:
            self.kept_places.discard(kept)

    def look(self, value):
        if is_box(value):
            box = self.there(value)
            return (box.tag, list(box.parts))
        return (value if isinstance(value, str) else "", [])

    def take(self, value, keep=False):
        if not is_box(value):
            return ([], None)
        box = self.there(value)
        if box.count == 1:
            return (list(box.parts), self.taken_place(value[1], keep))
        box.count = box.count - 1
        for part in box.parts:
            self.hold(part)
        return (list(box.parts), None)

    def taken_place(self, at, keep):
        self.by_number.pop(at)
        if not keep:
            return None
        self.kept_places.add(at)
        return at

    def work(self, many):
        done = 0
        while done < many and self.let_first_go():
            done = done + 1
        return done

    # Whether a box waited. None does here.
    def let_first_go(self):
        return False

    def boxes(self):
        found = []
        for at in sorted(self.by_number):
            box = self.by_number[at]
            found.append((at, box.tag, list(box.parts), box.count))
        return found

    def keeping(self):
        return list(self.kept_places.numbers)

    def waits(self):
        return []
