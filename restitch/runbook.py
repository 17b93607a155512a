"""Runs of books."""

from restitch.machine import ACTIONS, GOES_ON, Core, holds, start
from restitch.memory import can_fetch


class Reading:
    """A run of a book under way. The core holds what a book's run shares with the machine's."""

    def __init__(self, image, book, data):
        blocks, entry, table = book
        self.image = image
        self.core = Core(image, data, start(image))
        self.blocks = {label: (body, end) for label, body, end in blocks}
        self.table = dict(table)
        self.counts = {}
        self.go(entry)

    def go(self, label):
        self.label = label
        self.position = 0
        self.body, self.ending = self.blocks[label]

    def snapshot(self):
        registers, _, memory, taken, out, end = self.core.snapshot()
        return (registers, self.label, self.position, memory, taken, out, tuple(self.counted()), end)

    def counted(self):
        """The pairs of the counters that were added to, ascending."""
        return sorted(self.counts.items())

    def advance(self):
        """Does one line or one end; the run must not have ended."""
        if self.position == len(self.body):
            action = ACTIONS_OF_ENDS[self.ending[0]]
            action(self, self.ending)
            return
        line = self.body[self.position]
        action = ACTIONS_OF_LINES[line[0]]
        action(self, line)
        if self.core.end == GOES_ON:
            self.position += 1


def _do(reading, line):
    core = reading.core
    _, instruction, old = line
    # A trap of the core names its pc, which means nothing else here.
    core.pc = old
    action = ACTIONS[instruction[0]]
    action(core, instruction)


def _load_word(reading, line):
    reading.core.give(line[1], line[2])


def _count(reading, line):
    reading.counts[line[1]] = reading.counts.get(line[1], 0) + 1


def _go(reading, end):
    reading.go(end[1])


def _branch(reading, end):
    _, op, ra, rb, first, second = end
    registers = reading.core.registers
    reading.go(first if holds(op, registers[ra], registers[rb]) else second)


def _go_through(reading, end):
    _, ra, imm, rd, word = end
    core = reading.core
    # The address is computed first: rd may be ra.
    address = core.sum_of(ra, imm)
    core.give(rd, word)
    if address in reading.table:
        reading.go(reading.table[address])
    elif can_fetch(reading.image, address):
        core.end = ("lost", address)
    else:
        core.end = ("trap", "fetch", address)


def _finish(reading, end):
    core = reading.core
    core.end = ("exit", core.registers[end[1]] & 255)


def _trap(reading, end):
    core = reading.core
    core.end = end


ACTIONS_OF_LINES = {"do": _do, "li": _load_word, "count": _count}
ACTIONS_OF_ENDS = {"go": _go, "if": _branch, "through": _go_through, "exit": _finish, "trap": _trap}


def _read(image, book, data, fuel):
    """The run behind at most fuel steps, and the number of the steps."""
    reading = Reading(image, book, data)
    steps = 0
    while steps < fuel and reading.core.end == GOES_ON:
        reading.advance()
        steps += 1
    return reading, steps


def run_book(image, book, data, *, fuel):
    """The bytes written, the end, the number of steps and the counts, of at most fuel steps."""
    reading, steps = _read(image, book, data, fuel)
    return reading.core.out, reading.core.end, steps, reading.counted()


def last_of_book(image, book, data, *, fuel):
    """The state of the book behind at most fuel steps."""
    reading, _ = _read(image, book, data, fuel)
    return reading.snapshot()
