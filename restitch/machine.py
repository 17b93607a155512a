"""The machine: results, conditions, steps and runs."""

from restitch.codes import decode
from restitch.kinds import MASK, WORDS_IN_ALL
from restitch.memory import can_fetch, can_load, can_store, find_segment, first_memory, load_word, put_bytes, word_at

HALF = 2 ** 31
GOES_ON = ("none",)


def _signed(word):
    return word - WORDS_IN_ALL if word >= HALF else word


def _add(x, y):
    return (x + y) & MASK


def _sub(x, y):
    return (x - y) & MASK


def _mul(x, y):
    return (x * y) & MASK


def _and(x, y):
    return x & y


def _or(x, y):
    return x | y


def _xor(x, y):
    return x ^ y


def _shl(x, y):
    return (x << (y & 31)) & MASK


def _shr(x, y):
    return x >> (y & 31)


def _sar(x, y):
    return (_signed(x) >> (y & 31)) & MASK


def _slt(x, y):
    return 1 if _signed(x) < _signed(y) else 0


def _sltu(x, y):
    return 1 if x < y else 0


def _divu(x, y):
    return MASK if y == 0 else x // y


def _remu(x, y):
    return x if y == 0 else x % y


RESULTS = {
    "add": _add, "sub": _sub, "mul": _mul, "and": _and, "or": _or, "xor": _xor, "shl": _shl,
    "shr": _shr, "sar": _sar, "slt": _slt, "sltu": _sltu, "divu": _divu, "remu": _remu,
    "addi": _add, "andi": _and, "ori": _or, "xori": _xor, "shli": _shl, "shri": _shr,
    "sari": _sar, "slti": _slt,
}


def compute(op, x, y):
    """The result of an op of two registers, or of a register and an immediate, on words."""
    result_of = RESULTS[op]
    return result_of(x, y)


def holds(op, x, y):
    """True if the condition of a branch op holds for two words."""
    if op == "beq":
        return x == y
    if op == "bne":
        return x != y
    if op == "blt":
        return _signed(x) < _signed(y)
    if op == "bge":
        return _signed(x) >= _signed(y)
    if op == "bltu":
        return x < y
    return x >= y


class Core:
    """A run under way: a state that is changed in place, so that a step need not copy it."""

    def __init__(self, image, data, state):
        registers, pc, memory, taken, out, end = state
        self.image = image
        self.data = data
        self.registers = list(registers)
        self.pc = pc
        self.memory = list(memory)
        self.taken = taken
        self.out = list(out)
        self.end = end
        self.instructions = {}

    def snapshot(self):
        memory = tuple([tuple(values) for values in self.memory])
        return (tuple(self.registers), self.pc, memory, self.taken, tuple(self.out), self.end)

    def advance(self):
        """Takes one step; the end must be the one of a run that goes on."""
        instruction = self.current()
        if instruction is None:
            self.trap("illegal" if can_fetch(self.image, self.pc) else "fetch")
            return
        action = ACTIONS[instruction[0]]
        action(self, instruction)

    def current(self):
        """The instruction at pc, or None. No segment is writable and executable: it stays."""
        if self.pc not in self.instructions:
            fetched = can_fetch(self.image, self.pc)
            self.instructions[self.pc] = decode(word_at(self.image, self.pc)) if fetched else None
        return self.instructions[self.pc]

    def trap(self, word):
        self.end = ("trap", word, self.pc)

    def give(self, number, word):
        """Ends a step with a result, which is lost for register 0."""
        if number != 0:
            self.registers[number] = word
        self.go_by(4)

    def go_by(self, distance):
        self.pc = (self.pc + distance) & MASK

    def sum_of(self, number, immediate):
        return (self.registers[number] + immediate) & MASK

    def put_value(self, address, count, value):
        """Stores into a list of its own, which replaces the tuple at the first store."""
        index = find_segment(self.image, address, count)
        if isinstance(self.memory[index], tuple):
            self.memory[index] = list(self.memory[index])
        put_bytes(self.memory[index], address - self.image[0][index][0], count, value)


def _two_registers(core, instruction):
    op, rd, ra, rb = instruction
    core.give(rd, compute(op, core.registers[ra], core.registers[rb]))


def _immediate(core, instruction):
    op, rd, ra, imm = instruction
    core.give(rd, compute(op, core.registers[ra], imm & MASK))


def _upper(core, instruction):
    core.give(instruction[1], instruction[2] << 14)


def _load(core, instruction):
    op, rd, ra, imm = instruction
    address = core.sum_of(ra, imm)
    count = 4 if op == "lw" else 1
    if not can_load(core.image, address, count):
        core.trap("load")
        return
    value = load_word(core.image, core.memory, address, count)
    if op == "lb" and value >= 128:
        value += WORDS_IN_ALL - 256
    core.give(rd, value)


def _store(core, instruction):
    op, rb, ra, imm = instruction
    address = core.sum_of(ra, imm)
    count = 4 if op == "sw" else 1
    if not can_store(core.image, address, count):
        core.trap("store")
        return
    core.put_value(address, count, core.registers[rb])
    core.go_by(4)


def _branch(core, instruction):
    op, ra, rb, imm = instruction
    core.go_by(4 * imm if holds(op, core.registers[ra], core.registers[rb]) else 4)


def _jump(core, instruction):
    pc = core.pc
    core.give(instruction[1], (pc + 4) & MASK)
    core.pc = (pc + 4 * instruction[2]) & MASK


def _jump_to_register(core, instruction):
    _, rd, ra, imm = instruction
    # The target is read first: rd may be ra.
    target = core.sum_of(ra, imm)
    core.give(rd, (core.pc + 4) & MASK)
    core.pc = target


def _get(core, instruction):
    word = MASK
    if core.taken < len(core.data):
        word = core.data[core.taken]
        core.taken += 1
    core.give(instruction[1], word)


def _put(core, instruction):
    core.out.append(core.registers[instruction[1]] & 255)
    core.go_by(4)


def _finish(core, instruction):
    core.end = ("exit", core.registers[instruction[1]] & 255)


ACTIONS = {
    "add": _two_registers, "sub": _two_registers, "mul": _two_registers, "and": _two_registers,
    "or": _two_registers, "xor": _two_registers, "shl": _two_registers, "shr": _two_registers,
    "sar": _two_registers, "slt": _two_registers, "sltu": _two_registers, "divu": _two_registers,
    "remu": _two_registers,
    "addi": _immediate, "andi": _immediate, "ori": _immediate, "xori": _immediate,
    "shli": _immediate, "shri": _immediate, "sari": _immediate, "slti": _immediate,
    "lui": _upper,
    "lw": _load, "lb": _load, "lbu": _load,
    "sw": _store, "sb": _store,
    "beq": _branch, "bne": _branch, "blt": _branch, "bge": _branch, "bltu": _branch,
    "bgeu": _branch,
    "jal": _jump, "jalr": _jump_to_register,
    "get": _get, "put": _put, "exit": _finish,
}


def start(image):
    """The state at the start of a run."""
    return ((0,) * 16, image[1], first_memory(image), 0, (), GOES_ON)


def step(image, data, state):
    """The state behind one step; a state that has an end stays as it is."""
    if state[5] != GOES_ON:
        return state
    core = Core(image, data, state)
    core.advance()
    return core.snapshot()


def _ran(image, data, fuel):
    """The core behind at most fuel steps, and the number of the steps."""
    core = Core(image, data, start(image))
    steps = 0
    while steps < fuel and core.end == GOES_ON:
        core.advance()
        steps += 1
    return core, steps


def run(image, data, *, fuel):
    """The bytes written, the end, and the number of steps, of at most fuel steps."""
    core, steps = _ran(image, data, fuel)
    return core.out, core.end, steps


def last_state(image, data, *, fuel):
    """The state behind at most fuel steps."""
    core, _ = _ran(image, data, fuel)
    return core.snapshot()


def trace(image, data, *, fuel):
    """The addresses at which at most fuel steps are taken, in order."""
    core = Core(image, data, start(image))
    for _ in range(fuel):
        if core.end != GOES_ON:
            return
        yield core.pc
        core.advance()
