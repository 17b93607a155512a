import unittest

from restitch.codes import OPS, decode, encode, reads, writes

# [2.4]: the numbers of the table.
NUMBERS = {
    "add": 1, "sub": 2, "mul": 3, "and": 4, "or": 5, "xor": 6, "shl": 7, "shr": 8, "sar": 9,
    "slt": 10, "sltu": 11, "divu": 12, "remu": 13,
    "addi": 14, "andi": 15, "ori": 16, "xori": 17, "shli": 18, "shri": 19, "sari": 20, "slti": 21,
    "lui": 22, "lw": 23, "lb": 24, "lbu": 25, "sw": 26, "sb": 27,
    "beq": 28, "bne": 29, "blt": 30, "bge": 31, "bltu": 32, "bgeu": 33,
    "jal": 34, "jalr": 35, "get": 36, "put": 37, "exit": 38,
}
THREE = ("add", "sub", "mul", "and", "or", "xor", "shl", "shr", "sar", "slt", "sltu", "divu", "remu")
IMMEDIATE = ("addi", "andi", "ori", "xori", "shli", "shri", "sari", "slti")
LOADS = ("lw", "lb", "lbu")
STORES = ("sw", "sb")
BRANCHES = ("beq", "bne", "blt", "bge", "bltu", "bgeu")
WITH_14 = IMMEDIATE + LOADS + STORES + BRANCHES + ("jalr",)
SINGLE = ("get", "put", "exit")

REGISTERS = (0, 1, 7, 14, 15)
SIGNED_14 = (-8192, -8191, -1, 0, 1, 8190, 8191)
SIGNED_18 = (-131072, -131071, -8193, -1, 0, 1, 8192, 131070, 131071)
UNSIGNED_18 = (0, 1, 16383, 16384, 131071, 131072, 2 ** 18 - 2, 2 ** 18 - 1)


def all_with_words():
    """Instructions of every op with the word that [2.4] gives them."""
    for op in THREE:
        for rd in REGISTERS:
            for ra in REGISTERS:
                for rb in REGISTERS:
                    word = NUMBERS[op] * 2 ** 26 + rd * 2 ** 22 + ra * 2 ** 18 + rb * 2 ** 14
                    yield (op, rd, ra, rb), word
    for op in WITH_14:
        for first in REGISTERS:
            for second in REGISTERS:
                for imm in SIGNED_14:
                    word = NUMBERS[op] * 2 ** 26 + first * 2 ** 22 + second * 2 ** 18 + imm % 2 ** 14
                    yield (op, first, second, imm), word
    for rd in REGISTERS:
        for imm in UNSIGNED_18:
            yield ("lui", rd, imm), 22 * 2 ** 26 + rd * 2 ** 22 + imm
        for imm in SIGNED_18:
            yield ("jal", rd, imm), 34 * 2 ** 26 + rd * 2 ** 22 + imm % 2 ** 18
    for op in SINGLE:
        for number in REGISTERS:
            yield (op, number), NUMBERS[op] * 2 ** 26 + number * 2 ** 22


def zero_bits(op):
    """The bits that are 0 in each word of the op."""
    if op in THREE:
        return range(0, 14)
    if op in ("lui", "jal"):
        return range(18, 22)
    if op in SINGLE:
        return range(0, 22)
    return range(0)


class Ops(unittest.TestCase):
    def test_the_38_ops_in_order(self):
        self.assertIsInstance(OPS, tuple)
        self.assertEqual(len(OPS), 38)
        self.assertEqual([OPS.index(op) + 1 for op in NUMBERS], list(NUMBERS.values()))
        self.assertEqual(OPS, tuple(NUMBERS))


class Encode(unittest.TestCase):
    def test_the_example(self):
        self.assertEqual(encode(("addi", 1, 0, -1)), 943734783)

    def test_words_in_full(self):
        self.assertEqual(encode(("add", 0, 0, 0)), 0x04000000)
        self.assertEqual(encode(("remu", 15, 14, 13)), 0x37FB4000)
        self.assertEqual(encode(("lui", 15, 2 ** 18 - 1)), 0x5BC3FFFF)
        self.assertEqual(encode(("sw", 2, 3, 4)), 0x688C0004)
        self.assertEqual(encode(("bgeu", 1, 2, -8192)), 0x84482000)
        self.assertEqual(encode(("jal", 1, -1)), 0x8843FFFF)
        self.assertEqual(encode(("exit", 15)), 0x9BC00000)

    def test_every_op_against_the_table(self):
        for instruction, word in all_with_words():
            self.assertEqual(encode(instruction), word, instruction)

    def test_all_ops_are_among_these(self):
        self.assertEqual({instruction[0] for instruction, _ in all_with_words()}, set(NUMBERS))

    def test_immediates_beyond_the_bounds_are_taken_modulo(self):
        self.assertEqual(encode(("addi", 1, 2, 8192)), encode(("addi", 1, 2, -8192)))
        self.assertEqual(encode(("addi", 1, 2, -8193)), encode(("addi", 1, 2, 8191)))
        self.assertEqual(encode(("jal", 1, 131072)), encode(("jal", 1, -131072)))
        self.assertEqual(encode(("jal", 1, -131073)), encode(("jal", 1, 131071)))
        self.assertEqual(encode(("lui", 1, 2 ** 18)), encode(("lui", 1, 0)))
        self.assertEqual(encode(("lui", 1, -1)), encode(("lui", 1, 2 ** 18 - 1)))


class Decode(unittest.TestCase):
    def test_every_op_against_the_table(self):
        for instruction, word in all_with_words():
            found = decode(word)
            self.assertEqual(found, instruction)
            self.assertIsInstance(found, tuple)

    def test_numbers_of_no_op(self):
        for number in [0, *range(39, 64)]:
            for rest in (0, 1, 2 ** 14, 2 ** 18, 2 ** 22, 2 ** 26 - 1):
                self.assertIsNone(decode(number * 2 ** 26 + rest), (number, rest))
        self.assertIsNone(decode(0))
        self.assertIsNone(decode(2 ** 32 - 1))

    def test_a_bit_where_all_others_are_0(self):
        count = 0
        for instruction, word in all_with_words():
            for bit in zero_bits(instruction[0]):
                self.assertIsNone(decode(word + 2 ** bit), (instruction, bit))
                count += 1
        self.assertGreater(count, 20000)

    def test_what_is_no_word_is_no_instruction(self):
        word = encode(("add", 1, 2, 3))
        self.assertIsNone(decode(word + 2 ** 32))
        self.assertIsNone(decode(word - 2 ** 32))
        self.assertIsNone(decode(-1))

    def test_words_that_decode_come_back(self):
        word, decoded = 1, 0
        for _ in range(20000):
            word = (word * 1664525 + 1013904223) % 2 ** 32
            # Words of few bits reach the ops whose low bits must be 0.
            for tried in (word, word & 0xFFFFC000, word & 0xFFC3FFFF, word & 0xFFC00000):
                found = decode(tried)
                if found is not None:
                    decoded += 1
                    self.assertEqual(encode(found), tried)
        self.assertGreater(decoded, 10000)


class Uses(unittest.TestCase):
    def test_three_registers(self):
        for op in THREE:
            self.assertEqual(reads((op, 1, 3, 2)), (2, 3))
            self.assertEqual(reads((op, 1, 15, 15)), (15,))
            self.assertEqual(reads((op, 1, 0, 5)), (5,))
            self.assertEqual(reads((op, 1, 5, 0)), (5,))
            self.assertEqual(reads((op, 1, 0, 0)), ())
            self.assertEqual(reads((op, 4, 4, 14)), (4, 14))
            self.assertEqual(writes((op, 1, 3, 2)), 1)
            self.assertEqual(writes((op, 15, 3, 2)), 15)
            self.assertEqual(writes((op, 0, 3, 2)), -1)

    def test_a_register_and_an_immediate(self):
        for op in IMMEDIATE + LOADS + ("jalr",):
            self.assertEqual(reads((op, 1, 2, 3)), (2,))
            self.assertEqual(reads((op, 15, 15, 3)), (15,))
            self.assertEqual(reads((op, 1, 0, 3)), ())
            self.assertEqual(writes((op, 1, 2, 3)), 1)
            self.assertEqual(writes((op, 15, 2, -3)), 15)
            self.assertEqual(writes((op, 0, 2, 3)), -1)

    def test_stores_and_branches(self):
        for op in STORES + BRANCHES:
            self.assertEqual(reads((op, 9, 2, 3)), (2, 9))
            self.assertEqual(reads((op, 2, 9, 3)), (2, 9))
            self.assertEqual(reads((op, 9, 9, 3)), (9,))
            self.assertEqual(reads((op, 0, 15, 3)), (15,))
            self.assertEqual(reads((op, 15, 0, 3)), (15,))
            self.assertEqual(reads((op, 0, 0, 3)), ())
            self.assertEqual(writes((op, 9, 2, 3)), -1)
            self.assertEqual(writes((op, 0, 2, 3)), -1)

    def test_lui_and_jal(self):
        for op in ("lui", "jal"):
            self.assertEqual(reads((op, 1, 5)), ())
            self.assertEqual(writes((op, 1, 5)), 1)
            self.assertEqual(writes((op, 15, 0)), 15)
            self.assertEqual(writes((op, 0, 5)), -1)

    def test_get(self):
        self.assertEqual(reads(("get", 3)), ())
        self.assertEqual(writes(("get", 3)), 3)
        self.assertEqual(writes(("get", 15)), 15)
        self.assertEqual(writes(("get", 0)), -1)

    def test_put_and_exit(self):
        for op in ("put", "exit"):
            self.assertEqual(reads((op, 3)), (3,))
            self.assertEqual(reads((op, 15)), (15,))
            self.assertEqual(reads((op, 0)), ())
            self.assertEqual(writes((op, 3)), -1)
            self.assertEqual(writes((op, 0)), -1)

    def test_the_kinds_of_the_answers(self):
        for instruction, _ in all_with_words():
            self.assertIsInstance(reads(instruction), tuple)
            self.assertIsInstance(writes(instruction), int)
            self.assertNotIn(0, reads(instruction))
            self.assertNotEqual(writes(instruction), 0)


if __name__ == "__main__":
    unittest.main()
