"""The whole: a text is compiled, and run on a machine."""

from reusewise.anew import anew
from reusewise.holds import held
from reusewise.machine import Machine
from reusewise.owners import owners
from reusewise.reader import read
from reusewise.sound import sound

MOST_SIZE = 1000000000000000000


def compiled(text):
    program = read(text)
    sound(program)
    return anew(held(program, owners(program)))


def ran(text, name, args, steps, size, stretch=0):
    return Machine(compiled(text), name, args, steps, size, stretch).result()


# A run of made code ends full just where the boxes come to be more than the size, for a kept place
# is given up where room is wanted. So the most that there are at once, with room enough, are its need.
def need(text, name, args, steps):
    machine = Machine(compiled(text), name, args, steps, MOST_SIZE)
    machine.result()
    return machine.heap.peak
