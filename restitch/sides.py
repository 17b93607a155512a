"""One side of a way: the terms of the registers, and the events."""

from restitch.codes import LOADS, OPS_OF_IMMEDIATES, STORES
from restitch.kinds import MASK
from restitch.settling import Foresight

WORD_SIZE = 4
BYTE_SIZE = 1
TOP_OF_BYTE = 24


class Side:
    """The registers and events of the old code, or of a book's block, on a way.

    known is the list of what becomes known on the old way, which may grow meanwhile.
    """

    def __init__(self, pool, registers, known):
        self.pool = pool
        self.registers = list(registers)
        self.events = []
        self.loads = 0
        self.gets = 0
        self.before = Foresight(pool, known)
        # What the events tell of the memory: for each base of an address, and for the size and
        # the distance from it, the op and the value.
        self.told = {}

    def give(self, number, term):
        """Writes a register; what is written to register 0 is lost."""
        if number != 0:
            self.registers[number] = term

    def give_word(self, number, word):
        self.give(number, self.pool.word(word))

    def sum_of(self, number, immediate):
        return self.pool.normal("add", self.registers[number], self.pool.word(immediate & MASK))

    def do(self, instruction, old):
        """Does an instruction that goes on behind itself; the term of its result, or None."""
        op = instruction[0]
        if op in STORES or op == "put":
            self.pass_out(instruction, old)
            return None
        if op in LOADS:
            result = self.loaded(instruction, old)
        elif op == "get":
            result = self.pool.term(("get", self.gets))
            self.gets += 1
            self.add_event(op, self.pool.word(0), self.pool.word(0), old)
        elif op == "lui":
            result = self.pool.word(instruction[2] << 14)
        else:
            result = self.computed(instruction)
        self.give(instruction[1], result)
        return result

    def computed(self, instruction):
        """The term of the result of an alu instruction."""
        op, _, ra, last = instruction
        second = self.pool.word(last & MASK) if op in OPS_OF_IMMEDIATES else self.registers[last]
        return self.pool.normal(op, self.registers[ra], second)

    def pass_out(self, instruction, old):
        """Does a store or a put."""
        op = instruction[0]
        value = self.registers[instruction[1]]
        if op == "put":
            self.add_event(op, self.pool.word(0), value, old)
            return
        address = self.address_of(instruction)
        self.forget(address, size_of(op))
        self.tell(op, address, value)
        self.add_event(op, address, value, old)

    def loaded(self, instruction, old):
        """The term of what a load gives, which is an event unless it is quiet."""
        op = instruction[0]
        address = self.address_of(instruction)
        value = self.value_told(op, address)
        if value is None:
            value = self.pool.term(("load", self.loads))
            self.loads += 1
            self.tell(op, address, value)
            self.add_event(op, address, self.pool.word(0), old)
        return value

    def address_of(self, instruction):
        """The settled address term of a load or store."""
        # Only what was known ahead of the event before this one is the same on both sides
        # here, since quiet loads may stand at different places on them.
        return self.before.settled(len(self.events) - 1, self.sum_of(instruction[2], instruction[3]))

    def add_event(self, op, address, value, old):
        self.events.append((op, address, value, old))

    def tell(self, op, address, value):
        distance, base = self.pool.linear(address)
        self.told.setdefault(base, {})[(size_of(op), distance)] = (op, value)

    def value_told(self, op, address):
        """The value of a quiet load, or None if no event tells it."""
        distance, base = self.pool.linear(address)
        found = self.told.get(base, {}).get((size_of(op), distance))
        if found is None:
            return None
        source, value = found
        if op == source or op == "lw":
            return value
        if op == "lbu":
            return self.pool.normal("and", value, self.pool.word(255))
        places = self.pool.word(TOP_OF_BYTE)
        return self.pool.normal("sar", self.pool.normal("shl", value, places), places)

    def forget(self, address, size):
        """Forgets what a store to an address may change."""
        distance, base = self.pool.linear(address)
        kept = self.told.get(base, {})
        for width in (WORD_SIZE, BYTE_SIZE):
            for step in range(1 - width, size):
                kept.pop((width, (distance + step) & MASK), None)
        # Of another base nothing is known: it may be any address.
        self.told = {base: kept}


def size_of(op):
    return WORD_SIZE if op in ("lw", "sw") else BYTE_SIZE
