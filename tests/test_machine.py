import ctypes
import inspect
import types
import unittest

from helpers import TOP, bytes_of, code_segment, constant_segment, data_segment, image_of, load_constant, words_of
from restitch.codes import encode
from restitch.machine import compute, holds, last_state, run, start, step, trace

EDGES = (0, 1, 2 ** 31 - 1, 2 ** 31, 2 ** 32 - 1)
IMMEDIATE = {
    "addi": "add", "andi": "and", "ori": "or", "xori": "xor", "shli": "shl", "shri": "shr",
    "sari": "sar", "slti": "slt",
}


def signed(word):
    return ctypes.c_int32(word).value


def word(number):
    return ctypes.c_uint32(number).value


WANTED = {
    "add": lambda x, y: word(x + y),
    "sub": lambda x, y: word(x - y),
    "mul": lambda x, y: word(x * y),
    "and": lambda x, y: x & y,
    "or": lambda x, y: x | y,
    "xor": lambda x, y: x ^ y,
    "shl": lambda x, y: word(x * 2 ** (y % 32)),
    "shr": lambda x, y: x // 2 ** (y % 32),
    "sar": lambda x, y: word(signed(x) // 2 ** (y % 32)),
    "slt": lambda x, y: int(signed(x) < signed(y)),
    "sltu": lambda x, y: int(x < y),
    "divu": lambda x, y: x // y if y else TOP,
    "remu": lambda x, y: x % y if y else x,
}

# A row for each first operand, a column for each second one, both in the order of EDGES.
SLT = ((0, 1, 1, 0, 0), (0, 0, 1, 0, 0), (0, 0, 0, 0, 0), (1, 1, 1, 0, 1), (1, 1, 1, 0, 0))
SLTU = ((0, 1, 1, 1, 1), (0, 0, 1, 1, 1), (0, 0, 0, 1, 1), (0, 0, 0, 0, 1), (0, 0, 0, 0, 0))


class Compute(unittest.TestCase):
    def test_all_edges(self):
        values = (*EDGES, 2, 3, 31, 32, 33, 63, 64, 12345, 2 ** 31 + 1, 2 ** 32 - 2, 0xDEADBEEF)
        for op, wanted in WANTED.items():
            for x in values:
                for y in values:
                    found = compute(op, x, y)
                    self.assertEqual(found, wanted(x, y), (op, x, y))
                    self.assertNotIsInstance(found, bool)

    def test_ops_with_an_immediate(self):
        for op, like in IMMEDIATE.items():
            for x in EDGES:
                for y in (*EDGES, 31, 32, 33):
                    self.assertEqual(compute(op, x, y), compute(like, x, y), (op, x, y))

    def test_wrapping(self):
        self.assertEqual(compute("add", 2 ** 32 - 1, 1), 0)
        self.assertEqual(compute("add", 2 ** 32 - 1, 2 ** 32 - 1), 2 ** 32 - 2)
        self.assertEqual(compute("add", 2 ** 31, 2 ** 31), 0)
        self.assertEqual(compute("add", 2 ** 31 - 1, 1), 2 ** 31)
        self.assertEqual(compute("sub", 0, 1), 2 ** 32 - 1)
        self.assertEqual(compute("sub", 0, 2 ** 31), 2 ** 31)
        self.assertEqual(compute("sub", 1, 2 ** 32 - 1), 2)
        self.assertEqual(compute("mul", 2 ** 31, 2), 0)
        self.assertEqual(compute("mul", 2 ** 32 - 1, 2 ** 32 - 1), 1)
        self.assertEqual(compute("mul", 65536, 65537), 65536)
        self.assertEqual(compute("shl", 3, 31), 2 ** 31)

    def test_bits(self):
        self.assertEqual(compute("and", 0b1100, 0b1010), 0b1000)
        self.assertEqual(compute("or", 0b1100, 0b1010), 0b1110)
        self.assertEqual(compute("xor", 0b1100, 0b1010), 0b0110)

    def test_shifts(self):
        for op, one, top in (("shl", 2 ** 31, 2 ** 31), ("shr", 0, 1), ("sar", 0, 2 ** 32 - 1)):
            self.assertEqual(compute(op, 1, 31), one)
            self.assertEqual(compute(op, 2 ** 32 - 1, 31), top)
            for many in (0, 32, 64, 2 ** 31, 2 ** 32 - 32):
                self.assertEqual(compute(op, 0x80000001, many), 0x80000001)
            for many in (1, 33, 65, 2 ** 32 - 31):
                self.assertEqual(compute(op, 0x80000001, many), compute(op, 0x80000001, 1))
        self.assertEqual(compute("shl", 0x80000001, 1), 2)
        self.assertEqual(compute("shr", 0x80000001, 1), 0x40000000)
        self.assertEqual(compute("sar", 0x80000001, 1), 0xC0000000)
        self.assertEqual(compute("sar", 0x7FFFFFFF, 1), 0x3FFFFFFF)
        self.assertEqual(compute("sar", 2 ** 31, 2 ** 32 - 1), 2 ** 32 - 1)

    def test_comparisons(self):
        for row, x in enumerate(EDGES):
            for column, y in enumerate(EDGES):
                self.assertEqual(compute("slt", x, y), SLT[row][column], (x, y))
                self.assertEqual(compute("slti", x, y), SLT[row][column], (x, y))
                self.assertEqual(compute("sltu", x, y), SLTU[row][column], (x, y))

    def test_division(self):
        for x in EDGES:
            self.assertEqual(compute("divu", x, 0), 2 ** 32 - 1)
            self.assertEqual(compute("remu", x, 0), x)
            self.assertEqual(compute("divu", x, 1), x)
            self.assertEqual(compute("remu", x, 1), 0)
        self.assertEqual(compute("divu", 2 ** 32 - 1, 10), 429496729)
        self.assertEqual(compute("remu", 2 ** 32 - 1, 10), 5)
        self.assertEqual(compute("divu", 2 ** 31, 2 ** 32 - 1), 0)
        self.assertEqual(compute("remu", 2 ** 31, 2 ** 32 - 1), 2 ** 31)


class Holds(unittest.TestCase):
    def test_all_edges(self):
        for row, x in enumerate(EDGES):
            for column, y in enumerate(EDGES):
                wanted = {
                    "beq": row == column, "bne": row != column,
                    "blt": SLT[row][column] == 1, "bge": SLT[row][column] == 0,
                    "bltu": SLTU[row][column] == 1, "bgeu": SLTU[row][column] == 0,
                }
                for op, answer in wanted.items():
                    self.assertIs(holds(op, x, y), answer, (op, x, y))


def state_at(image, pc, data=(), **registers):
    """The start state with another pc and values of registers (r1=..)."""
    _, _, memory, taken, out, end = start(image)
    return (filled(**registers), pc, memory, taken, out, end)


def filled(**registers):
    values = [0] * 16
    for name, value in registers.items():
        values[int(name[1:])] = value
    return tuple(values)


def one_step(instruction, *others, data=(), address=64, **registers):
    """The state ahead of and behind one step of an instruction."""
    image = image_of([instruction], *others, address=address)
    before = state_at(image, address, **registers)
    return before, step(image, data, before)


class Steps(unittest.TestCase):
    def moves(self, instruction, pc, data=(), before=None, after=None, address=64):
        """A step from the address to pc that changes just the registers."""
        found, behind = one_step(instruction, data=data, address=address, **(before or {}))
        self.assertEqual(behind, (filled(**(after or {})), pc, *found[2:]))

    def test_start(self):
        image = image_of([("exit", 1)], data_segment(8, (1, 2, 3, 4)), address=64, entry=2 ** 32 - 1)
        memory = ((1, 2, 3, 4), bytes_of([encode(("exit", 1))]))
        self.assertEqual(start(image), ((0,) * 16, 2 ** 32 - 1, memory, 0, (), ("none",)))
        self.assertEqual(start(image)[2], tuple(segment[1] for segment in image[0]))

    def test_results_of_two_registers(self):
        for op, wanted in WANTED.items():
            for x in EDGES:
                for y in EDGES:
                    before = {"r2": x, "r3": y}
                    self.moves((op, 1, 2, 3), 68, (), before, {**before, "r1": wanted(x, y)})

    def test_results_of_an_immediate(self):
        for op, like in IMMEDIATE.items():
            for x in EDGES:
                for imm in (-8192, -8191, -1, 0, 1, 5, 31, 32, 8190, 8191):
                    wanted = WANTED[like](x, imm % 2 ** 32)
                    self.moves((op, 15, 2, imm), 68, (), {"r2": x}, {"r2": x, "r15": wanted})

    def test_a_result_for_a_register_that_is_read(self):
        self.moves(("add", 2, 2, 2), 68, (), {"r2": 2 ** 31 + 1}, {"r2": 2})
        self.moves(("sub", 3, 2, 3), 68, (), {"r2": 5, "r3": 7}, {"r2": 5, "r3": TOP - 1})
        self.moves(("addi", 2, 2, -1), 68, (), {"r2": 0}, {"r2": TOP})

    def test_lui(self):
        self.moves(("lui", 1, 0), 68, (), {"r1": 5}, {})
        self.moves(("lui", 1, 1), 68, (), {}, {"r1": 16384})
        self.moves(("lui", 15, 2 ** 18 - 1), 68, (), {}, {"r15": 2 ** 32 - 16384})
        self.moves(("lui", 1, 2 ** 17), 68, (), {}, {"r1": 2 ** 31})

    def test_results_for_register_0_are_lost(self):
        for instruction in (
            ("add", 0, 1, 1), ("divu", 0, 1, 0), ("addi", 0, 0, 5), ("ori", 0, 1, -1), ("lui", 0, 9),
        ):
            self.moves(instruction, 68, (), {"r1": 3}, {"r1": 3})
        self.moves(("jal", 0, 5), 84)
        self.moves(("jalr", 0, 1, 4), 12, (), {"r1": 8}, {"r1": 8})

    def test_register_0_holds_0(self):
        self.moves(("add", 1, 0, 0), 68, (), {"r1": 9}, {"r1": 0})
        self.moves(("sub", 1, 0, 2), 68, (), {"r2": 1}, {"r2": 1, "r1": TOP})

    def test_branches(self):
        for op in ("beq", "bne", "blt", "bge", "bltu", "bgeu"):
            for x in EDGES:
                for y in EDGES:
                    before = {"r2": x, "r3": y}
                    for imm in (3, -5, 0, 1):
                        pc = 64 + 4 * imm if holds(op, x, y) else 68
                        self.moves((op, 2, 3, imm), pc, (), before, before)

    def test_a_branch_compares_its_first_register_with_its_second(self):
        self.moves(("blt", 2, 3, 10), 104, (), {"r2": 1, "r3": 2}, {"r2": 1, "r3": 2})
        self.moves(("blt", 3, 2, 10), 68, (), {"r2": 1, "r3": 2}, {"r2": 1, "r3": 2})
        self.moves(("bgeu", 0, 3, 10), 68, (), {"r3": 2}, {"r3": 2})
        self.moves(("beq", 0, 0, -16), 0)

    def test_branches_that_wrap(self):
        self.moves(("beq", 0, 0, -17), 2 ** 32 - 4)
        self.moves(("beq", 0, 0, -8192), 2 ** 32 + 64 - 32768)
        self.moves(("beq", 0, 0, 8191), 64 + 32764)
        self.moves(("bne", 0, 0, 3), 0, address=2 ** 32 - 4)
        self.moves(("beq", 0, 0, 2), 4, address=2 ** 32 - 4)

    def test_jal(self):
        self.moves(("jal", 1, 3), 76, (), {}, {"r1": 68})
        self.moves(("jal", 1, -3), 52, (), {"r1": 5}, {"r1": 68})
        self.moves(("jal", 15, 0), 64, (), {}, {"r15": 68})
        self.moves(("jal", 1, 131071), 64 + 524284, (), {}, {"r1": 68})
        self.moves(("jal", 1, -131072), 2 ** 32 + 64 - 524288, (), {}, {"r1": 68})
        self.moves(("jal", 1, 1), 0, (), {}, {"r1": 0}, address=2 ** 32 - 4)
        self.moves(("jal", 1, 17), 64, (), {}, {"r1": 0}, address=2 ** 32 - 4)

    def test_jalr(self):
        self.moves(("jalr", 1, 2, 0), 400, (), {"r2": 400}, {"r2": 400, "r1": 68})
        self.moves(("jalr", 1, 2, -8), 392, (), {"r2": 400}, {"r2": 400, "r1": 68})
        self.moves(("jalr", 1, 2, 3), 403, (), {"r2": 400}, {"r2": 400, "r1": 68})
        self.moves(("jalr", 2, 2, 4), 404, (), {"r2": 400}, {"r2": 68})
        self.moves(("jalr", 1, 0, 8191), 8191, (), {}, {"r1": 68})
        self.moves(("jalr", 1, 0, -1), TOP, (), {}, {"r1": 68})
        self.moves(("jalr", 1, 2, 5), 4, (), {"r2": TOP}, {"r2": TOP, "r1": 68})
        self.moves(("jalr", 1, 2, 0), 8, (), {"r2": 8}, {"r2": 8, "r1": 0}, address=2 ** 32 - 4)

    def test_pc_wraps(self):
        self.moves(("addi", 1, 0, 7), 0, (), {}, {"r1": 7}, address=2 ** 32 - 4)
        before, behind = one_step(("put", 1), address=2 ** 32 - 4, r1=7)
        self.assertEqual(behind, (before[0], 0, before[2], 0, (7,), ("none",)))
        self.assertEqual(one_step(("get", 1), address=2 ** 32 - 4)[1][1], 0)
        _, behind = one_step(("sb", 1, 0, 8), data_segment(8, (0,) * 4), address=2 ** 32 - 4)
        self.assertEqual(behind[1], 0)
        _, behind = one_step(("lb", 1, 0, 8), data_segment(8, (0,) * 4), address=2 ** 32 - 4)
        self.assertEqual(behind[1], 0)

    def test_get(self):
        image = image_of([("get", 1)] * 5, address=64)
        for data in ([7, 0, 255], (7, 0, 255)):
            state = start(image)
            seen = []
            for _ in range(5):
                state = step(image, data, state)
                seen.append((state[0][1], state[3]))
            self.assertEqual(seen, [(7, 1), (0, 2), (255, 3), (TOP, 3), (TOP, 3)])
            self.assertEqual(state[1:], (84, start(image)[2], 3, (), ("none",)))

    def test_get_without_input(self):
        for data in ([], ()):
            before, behind = one_step(("get", 3), data=data, r3=9)
            self.assertEqual(behind, (filled(r3=TOP), 68, *before[2:]))

    def test_get_for_register_0_takes_a_byte(self):
        before, behind = one_step(("get", 0), data=[9], r1=5)
        self.assertEqual(behind, (filled(r1=5), 68, before[2], 1, (), ("none",)))
        before, behind = one_step(("get", 0), data=[], r1=5)
        self.assertEqual(behind, (filled(r1=5), 68, before[2], 0, (), ("none",)))

    def test_put(self):
        for value, byte in ((0, 0), (1, 1), (255, 255), (256, 0), (0x12345678, 0x78), (TOP, 255)):
            before, behind = one_step(("put", 2), r2=value)
            self.assertEqual(behind, (before[0], 68, before[2], 0, (byte,), ("none",)))
        self.assertEqual(one_step(("put", 0), r2=5)[1][4], (0,))

    def test_put_writes_behind_what_was_written(self):
        image = image_of([("put", 1)])
        state = (filled(r1=3), 0, start(image)[2], 0, (1, 2), ("none",))
        self.assertEqual(step(image, (), state)[4], (1, 2, 3))


# At 64 there is code; at 16 a constant segment, at 128 two writable ones that touch.
STUFF = (
    constant_segment(16, (1, 2, 3, 0x84)),
    data_segment(128, (0x11, 0x22, 0x33, 0xC4, 0x55, 0x66, 0x77, 0x7F)),
    data_segment(136, (0x80, 0, 0xFF, 1)),
)


class Memory(unittest.TestCase):
    def loaded(self, op, base, imm):
        before, behind = one_step((op, 1, 2, imm), *STUFF, r2=base)
        self.assertEqual(behind, (filled(r2=base, r1=behind[0][1]), 68, *before[2:]))
        return behind[0][1]

    def stored(self, op, base, imm, value):
        before, behind = one_step((op, 1, 2, imm), *STUFF, r1=value, r2=base)
        self.assertEqual((*behind[:2], *behind[3:]), (before[0], 68, *before[3:]))
        self.assertEqual((behind[2][0], behind[2][1]), (before[2][0], before[2][1]))
        return behind[2][2] + behind[2][3]

    def trapped(self, word, instruction, **registers):
        before, behind = one_step(instruction, *STUFF, **registers)
        self.assertEqual(behind, (*before[:5], ("trap", word, 64)))

    def test_lw(self):
        self.assertEqual(self.loaded("lw", 128, 0), 0xC4332211)
        self.assertEqual(self.loaded("lw", 0, 132), 0x7F776655)
        self.assertEqual(self.loaded("lw", 137, -1), 0x01FF0080)
        self.assertEqual(self.loaded("lw", 16, 0), 0x84030201)
        self.assertEqual(self.loaded("lw", 64, 0), encode(("lw", 1, 2, 0)))
        self.assertEqual(self.loaded("lw", 2 ** 32 - 100, 116), 0x84030201)

    def test_lb_and_lbu(self):
        wanted = {
            16: (1, 1), 19: (0x84, 0xFFFFFF84), 128: (0x11, 0x11), 131: (0xC4, 0xFFFFFFC4),
            135: (0x7F, 0x7F), 136: (0x80, 0xFFFFFF80), 137: (0, 0), 138: (0xFF, 0xFFFFFFFF), 139: (1, 1),
        }
        for address, (plain, extended) in wanted.items():
            self.assertEqual(self.loaded("lbu", address, 0), plain)
            self.assertEqual(self.loaded("lb", address, 0), extended)
            self.assertEqual(self.loaded("lb", address + 7, -7), extended)
            self.assertEqual(self.loaded("lbu", 2 ** 32 - 10, address + 10), plain)

    def test_loads_that_are_not_allowed(self):
        for address in (12, 15, 17, 18, 19, 20, 60, 68, 124, 127, 129, 133, 134, 135, 137, 140, 0, 1, TOP, 2 ** 32 - 4):
            self.trapped("load", ("lw", 1, 2, 0), r1=77, r2=address)
            self.trapped("load", ("lw", 0, 2, 0), r1=77, r2=address)
        for address in (0, 15, 20, 63, 68, 127, 140, TOP):
            for op in ("lb", "lbu"):
                self.trapped("load", (op, 1, 2, 0), r1=77, r2=address)
                self.trapped("load", (op, 0, 2, 0), r1=77, r2=address)
        self.trapped("load", ("lb", 1, 2, -1), r2=128)
        self.trapped("load", ("lb", 1, 2, 1), r2=139)

    def test_a_load_for_register_0(self):
        for op in ("lw", "lb", "lbu"):
            before, behind = one_step((op, 0, 2, 0), *STUFF, r2=128)
            self.assertEqual(behind, (before[0], 68, *before[2:]))

    def test_a_load_into_its_address(self):
        before, behind = one_step(("lw", 2, 2, 0), *STUFF, r2=128)
        self.assertEqual(behind, (filled(r2=0xC4332211), 68, *before[2:]))

    def test_sw(self):
        old = STUFF[1][1] + STUFF[2][1]
        self.assertEqual(self.stored("sw", 128, 0, 0xA1B2C3D4), (0xD4, 0xC3, 0xB2, 0xA1) + old[4:])
        self.assertEqual(self.stored("sw", 0, 132, 1), old[:4] + (1, 0, 0, 0) + old[8:])
        self.assertEqual(self.stored("sw", 144, -8, TOP), old[:8] + (255,) * 4)
        self.assertEqual(self.stored("sw", 2 ** 32 - 8, 136, 0), (0,) * 4 + old[4:])

    def test_sb(self):
        old = STUFF[1][1] + STUFF[2][1]
        for at in range(12):
            wanted = old[:at] + (0xD4,) + old[at + 1:]
            self.assertEqual(self.stored("sb", 128, at, 0xA1B2C3D4), wanted)
            self.assertEqual(self.stored("sb", 160, at - 32, 0xD4), wanted)

    def test_a_store_of_register_0(self):
        _, behind = one_step(("sw", 0, 2, 0), *STUFF, r2=128)
        self.assertEqual(behind[2][2][:4], (0, 0, 0, 0))

    def test_stores_that_are_not_allowed(self):
        for address in (12, 16, 20, 60, 64, 68, 124, 126, 127, 129, 130, 133, 134, 135, 138, 140, 0, TOP):
            self.trapped("store", ("sw", 1, 2, 0), r1=77, r2=address)
        for address in (0, 15, 16, 19, 20, 64, 67, 68, 127, 140, TOP):
            self.trapped("store", ("sb", 1, 2, 0), r1=77, r2=address)
        self.trapped("store", ("sb", 0, 2, -1), r2=128)

    def test_stores_one_behind_the_other(self):
        code = [("sw", 1, 2, 0), ("sb", 3, 2, 1), ("sb", 3, 2, 8), ("lw", 4, 2, 0), ("lw", 5, 2, 8)]
        image = image_of(code, *STUFF, address=64)
        state = state_at(image, 64, r1=0x01020304, r2=128, r3=0xEE)
        states = [state]
        for _ in code:
            states.append(step(image, (), states[-1]))
        self.assertEqual(states[-1][0][4], 0x0102EE04)
        self.assertEqual(states[-1][0][5], 0x01FF00EE)
        self.assertEqual(states[0][2], tuple(segment[1] for segment in image[0]))
        self.assertEqual(states[1][2][2][:4], (4, 3, 2, 1))
        self.assertEqual(states[2][2][2][:4], (4, 0xEE, 2, 1))
        for state in states:
            self.assertIsInstance(state[2], tuple)
            self.assertEqual([len(values) for values in state[2]], [4, 20, 8, 4])
            self.assertTrue(all(isinstance(values, tuple) for values in state[2]))

    def test_the_image_and_the_data_stay_as_they_were(self):
        code = [("get", 1), ("sb", 1, 0, 128), ("sw", 1, 0, 136), ("put", 1), ("exit", 1)]
        image = image_of(code, *STUFF, address=64)
        kept = eval(repr(image))
        data = [1, 2, 3]
        for call in (run, last_state, trace):
            found = call(image, data, fuel=10)
            if call is trace:
                list(found)
            self.assertEqual(image, kept)
            self.assertEqual(data, [1, 2, 3])
        # A later run begins with the bytes of the image again.
        self.assertEqual(run(image, data, fuel=10), run(kept, (1, 2, 3), fuel=10))


class Ends(unittest.TestCase):
    def ends(self, image, state, end, data=()):
        """The step gives the end and changes nothing else; behind it nothing changes."""
        behind = step(image, data, state)
        self.assertEqual(behind, (*state[:5], end))
        self.assertEqual(step(image, data, behind), behind)

    def busy(self, image, pc):
        """A state in the middle of a run."""
        registers = (0, *range(101, 116))
        return (registers, pc, start(image)[2], 1, (7, 8), ("none",))

    def test_exit(self):
        for value, code in ((0, 0), (1, 1), (255, 255), (256, 0), (0x1234, 0x34), (TOP, 255)):
            before, behind = one_step(("exit", 3), r3=value)
            self.assertEqual(behind, (*before[:5], ("exit", code)))
        image = image_of([("exit", 4), ("exit", 0)])
        self.ends(image, self.busy(image, 0), ("exit", 104), [1, 2])
        self.ends(image, self.busy(image, 4), ("exit", 0), [1, 2])

    def test_fetch(self):
        others = (constant_segment(8, (1, 1, 1, 4)), data_segment(32, (1, 1, 1, 4)))
        image = image_of([("get", 1), ("get", 1)], *others, address=16)
        for pc in (0, 1, 8, 12, 15, 17, 18, 19, 21, 23, 24, 28, 32, 36, 2 ** 31, TOP, 2 ** 32 - 4):
            self.ends(image, self.busy(image, pc), ("trap", "fetch", pc), [1, 2])
        for pc in (16, 20):
            self.assertEqual(step(image, [], self.busy(image, pc))[5], ("none",))

    def test_illegal(self):
        words = [0, TOP, 39 * 2 ** 26, encode(("add", 1, 2, 3)) + 1, encode(("get", 1)) + 2 ** 21]
        image = image_of(words, address=16)
        for place in range(len(words)):
            pc = 16 + 4 * place
            self.ends(image, self.busy(image, pc), ("trap", "illegal", pc), [1, 2])

    def test_load_and_store(self):
        code = [("lw", 1, 0, 1), ("lb", 1, 0, -1), ("lbu", 2, 0, 4000), ("sw", 1, 0, 16), ("sb", 1, 0, 16)]
        image = image_of(code, data_segment(64, (0,) * 4), address=16)
        for place, word_of_trap in enumerate(("load", "load", "load", "store", "store")):
            pc = 16 + 4 * place
            self.ends(image, self.busy(image, pc), ("trap", word_of_trap, pc), [1, 2])

    def test_a_state_that_has_an_end_does_not_change(self):
        image = image_of([("put", 1), ("put", 1)])
        for end in (
            ("exit", 0), ("exit", 255), ("trap", "fetch", 0), ("trap", "illegal", 0),
            ("trap", "load", 0), ("trap", "store", 4),
        ):
            state = (*self.busy(image, 0)[:5], end)
            self.assertEqual(step(image, [1, 2], state), state)

    def test_a_step_does_not_change_the_state_that_is_passed(self):
        image = image_of([("sb", 1, 0, 64)], data_segment(64, (0,) * 4))
        state = self.busy(image, 0)
        kept = eval(repr(state))
        behind = step(image, [1, 2], state)
        self.assertEqual(state, kept)
        self.assertEqual(behind[2][1], (101, 0, 0, 0))

    def test_the_form_of_a_state(self):
        image = image_of([("put", 1), ("exit", 1)], data_segment(64, (0,) * 4))
        state = start(image)
        for _ in range(4):
            registers, pc, memory, taken, out, end = state
            for part in (state, registers, memory, *memory, out, end):
                self.assertIsInstance(part, tuple)
            self.assertEqual(len(registers), 16)
            self.assertIsInstance(pc, int)
            self.assertIsInstance(taken, int)
            state = step(image, [], state)


# The image behind [2.8].
EXAMPLE = image_of([("get", 1), ("beq", 1, 0, 3), ("put", 1), ("jal", 0, -3), ("exit", 1)], address=64)


class Runs(unittest.TestCase):
    def test_the_example(self):
        self.assertEqual(run(EXAMPLE, [5, 6, 0, 7], fuel=100), ([5, 6], ("exit", 0), 11))
        self.assertEqual(run(EXAMPLE, [0], fuel=100), ([], ("exit", 0), 3))
        self.assertEqual(run(EXAMPLE, [5], fuel=20), ([5, 255, 255, 255, 255], ("none",), 20))
        self.assertEqual(run(EXAMPLE, [], fuel=4000), ([255] * 1000, ("none",), 4000))

    def test_data_as_a_list_and_as_a_tuple(self):
        for data in ([5, 6, 0], (5, 6, 0)):
            out, end, steps = run(EXAMPLE, data, fuel=100)
            self.assertIsInstance(out, list)
            self.assertIsInstance(run(EXAMPLE, data, fuel=100), tuple)
            self.assertEqual((out, end, steps), ([5, 6], ("exit", 0), 11))
            self.assertEqual(last_state(EXAMPLE, data, fuel=100)[3:], (3, (5, 6), ("exit", 0)))
            self.assertEqual(len(list(trace(EXAMPLE, data, fuel=100))), 11)

    def test_fuel(self):
        self.assertEqual(run(EXAMPLE, [5, 0], fuel=0), ([], ("none",), 0))
        self.assertEqual(run(EXAMPLE, [5, 0], fuel=1), ([], ("none",), 1))
        self.assertEqual(run(EXAMPLE, [5, 0], fuel=3), ([5], ("none",), 3))
        self.assertEqual(run(EXAMPLE, [5, 0], fuel=6), ([5], ("none",), 6))
        self.assertEqual(run(EXAMPLE, [5, 0], fuel=7), ([5], ("exit", 0), 7))
        self.assertEqual(run(EXAMPLE, [5, 0], fuel=8), ([5], ("exit", 0), 7))
        self.assertEqual(run(EXAMPLE, [5, 0], fuel=10 ** 9), ([5], ("exit", 0), 7))

    def test_last_state(self):
        data = [5, 6, 0]
        state = start(EXAMPLE)
        for fuel in range(14):
            self.assertEqual(last_state(EXAMPLE, data, fuel=fuel), state)
            state = step(EXAMPLE, data, state)
        self.assertEqual(
            last_state(EXAMPLE, data, fuel=100), (filled(), 80, start(EXAMPLE)[2], 3, (5, 6), ("exit", 0))
        )

    def test_trace(self):
        whole = [64, 68, 72, 76, 64, 68, 80]
        self.assertEqual(list(trace(EXAMPLE, [5, 0], fuel=100)), whole)
        for fuel in range(10):
            self.assertEqual(list(trace(EXAMPLE, [5, 0], fuel=fuel)), whole[:fuel])
        self.assertIsInstance(trace(EXAMPLE, [5, 0], fuel=5), types.GeneratorType)

    def test_a_trace_without_an_end_is_lazy(self):
        found = trace(EXAMPLE, [], fuel=10 ** 12)
        self.assertEqual([next(found) for _ in range(5)], [64, 68, 72, 76, 64])

    def test_a_trap_is_a_step(self):
        image = image_of([("addi", 1, 0, 9), ("put", 1)], address=64)
        self.assertEqual(run(image, [], fuel=2), ([9], ("none",), 2))
        self.assertEqual(run(image, [], fuel=3), ([9], ("trap", "fetch", 72), 3))
        self.assertEqual(list(trace(image, [], fuel=100)), [64, 68, 72])
        self.assertEqual(last_state(image, [], fuel=100)[:2], (filled(r1=9), 72))

    def test_each_trap(self):
        for item, word_of_trap in (
            (0, "illegal"), (("lw", 1, 0, 2), "load"), (("sb", 1, 0, 64), "store"),
        ):
            image = image_of([("put", 0), item, ("exit", 0)], address=64)
            self.assertEqual(run(image, [], fuel=1), ([0], ("none",), 1))
            self.assertEqual(run(image, [], fuel=2), ([0], ("trap", word_of_trap, 68), 2))
            self.assertEqual(run(image, [], fuel=100), ([0], ("trap", word_of_trap, 68), 2))
            self.assertEqual(list(trace(image, [], fuel=100)), [64, 68])

    def test_an_entry_that_cannot_be_fetched(self):
        for entry in (0, 60, 65, 66, 84, TOP):
            image = (EXAMPLE[0], entry, ())
            self.assertEqual(run(image, [1], fuel=0), ([], ("none",), 0))
            self.assertEqual(run(image, [1], fuel=1), ([], ("trap", "fetch", entry), 1))
            self.assertEqual(list(trace(image, [1], fuel=5)), [entry])

    def test_an_entry_within_the_code(self):
        image = (EXAMPLE[0], 80, ())
        self.assertEqual(run(image, [1], fuel=5), ([], ("exit", 0), 1))

    def test_pc_that_wraps(self):
        segments = (code_segment(0, [("put", 1), ("exit", 1)]), code_segment(2 ** 32 - 8, [("addi", 1, 0, 3), ("put", 1)]))
        image = (segments, 2 ** 32 - 8, ())
        self.assertEqual(run(image, [], fuel=100), ([3, 3], ("exit", 3), 4))
        self.assertEqual(list(trace(image, [], fuel=100)), [2 ** 32 - 8, 2 ** 32 - 4, 0, 4])
        backwards = image_of([("jal", 0, -1), ("exit", 0)])
        self.assertEqual(run(backwards, [], fuel=9), ([], ("trap", "fetch", 2 ** 32 - 4), 2))

    def test_code_goes_on_in_a_segment_that_touches(self):
        image = ((code_segment(0, [("put", 0)]), code_segment(4, [("exit", 0)])), 0, ())
        self.assertEqual(run(image, [], fuel=9), ([0], ("exit", 0), 2))

    def test_a_jump_to_an_address_that_is_no_place(self):
        image = image_of([("jalr", 1, 0, 6), ("exit", 0)])
        self.assertEqual(run(image, [], fuel=9), ([], ("trap", "fetch", 6), 2))
        self.assertEqual(last_state(image, [], fuel=9)[0][1], 4)

    def test_code_is_also_data(self):
        image = image_of([("lbu", 1, 0, 3), ("put", 1), ("exit", 1)])
        first = encode(("lbu", 1, 0, 3)) >> 24
        self.assertEqual(run(image, [], fuel=9), ([first], ("exit", first), 3))

    def test_a_loop_over_memory(self):
        code = [
            ("addi", 1, 0, 10), *load_constant(2, 8192),
            ("sw", 1, 2, 0), ("addi", 2, 2, 4), ("addi", 1, 1, -1), ("bne", 1, 0, -3),
            ("lw", 3, 2, -40), ("lw", 4, 2, -4), ("put", 3), ("put", 4), ("exit", 2),
        ]
        image = image_of(code, data_segment(8192, (0,) * 40), address=4096)
        self.assertEqual(run(image, [], fuel=1000), ([10, 1], ("exit", 40), 48))
        state = last_state(image, [], fuel=1000)
        self.assertEqual(state[2], (image[0][0][1], bytes_of(range(10, 0, -1))))
        self.assertEqual(state[0], filled(r2=8232, r3=10, r4=1))

    def test_a_call_and_a_return(self):
        code = [("get", 1), ("jal", 15, 3), ("put", 1), ("exit", 0), ("add", 1, 1, 1), ("jalr", 0, 15, 0)]
        image = image_of(code, address=400)
        self.assertEqual(run(image, [21], fuel=100), ([42], ("exit", 0), 6))
        self.assertEqual(list(trace(image, [21], fuel=100)), [400, 404, 416, 420, 408, 412])

    def test_words_of_code_are_no_instructions(self):
        code = words_of([("jal", 0, 2), 0xFFFFFFFF, ("exit", 0)])
        image = image_of(code)
        self.assertEqual(run(image, [], fuel=9), ([], ("exit", 0), 2))

    def test_run_and_steps_agree(self):
        code = [
            ("get", 1), ("andi", 2, 1, 3), ("sb", 1, 2, 64), ("lb", 3, 2, 64), ("put", 3),
            ("bltu", 1, 3, -5), ("lw", 4, 0, 64), ("exit", 4),
        ]
        image = image_of(code, data_segment(64, (0,) * 8))
        for data in ([1, 2, 3, 4], [200, 130, 5], [128], [], [255, 129, 254, 131]):
            state, addresses = start(image), []
            for _ in range(100):
                if state[5] != ("none",):
                    break
                addresses.append(state[1])
                state = step(image, data, state)
            self.assertEqual(state[5][0], "exit")
            self.assertEqual(run(image, data, fuel=1000), (list(state[4]), state[5], len(addresses)))
            self.assertEqual(last_state(image, data, fuel=1000), state)
            self.assertEqual(list(trace(image, data, fuel=1000)), addresses)


class Interface(unittest.TestCase):
    def test_fuel_is_passed_by_keyword(self):
        for function in (run, last_state, trace):
            parameters = inspect.signature(function).parameters
            self.assertEqual(list(parameters), ["image", "data", "fuel"])
            self.assertIs(parameters["fuel"].kind, inspect.Parameter.KEYWORD_ONLY)
            self.assertIs(parameters["fuel"].default, inspect.Parameter.empty)

    def test_the_other_parameters(self):
        for function, names in (
            (compute, ["op", "x", "y"]), (holds, ["op", "x", "y"]), (start, ["image"]),
            (step, ["image", "data", "state"]),
        ):
            self.assertEqual(list(inspect.signature(function).parameters), names)


if __name__ == "__main__":
    unittest.main()
