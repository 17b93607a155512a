import random
import unittest

from helpers import TOP, ZEROS, bytes_of, constant_segment, data_segment, facts_of, image_of, row, span
from restitch.codes import OPS, encode
from restitch.machine import GOES_ON, start, step
from restitch.values import allows
from restitch.ways import allowed_targets, is_place, places, ways

BRANCHES = ("beq", "bne", "blt", "bge", "bltu", "bgeu")
NOTHING_KNOWN = facts_of()


def image_at(instruction, address=64, *others):
    return image_of([instruction], *others, address=address)


def ways_of(instruction, facts=NOTHING_KNOWN, address=64, others=()):
    return ways(image_at(instruction, address, *others), address, facts)


class Places(unittest.TestCase):
    IMAGE = (
        (
            (0, (0,) * 8, False, True), (8, (0,) * 8, True, False), (64, (0,) * 4, False, False),
            (68, (0,) * 4, False, True), (2 ** 32 - 4, (0,) * 4, False, True),
        ), 0, (),
    )

    def test_is_place(self):
        wanted = (0, 4, 68, 2 ** 32 - 4)
        for address in (*range(0, 100), 2 ** 32 - 8, 2 ** 32 - 5, 2 ** 32 - 4, 2 ** 32 - 3, TOP):
            self.assertIs(is_place(self.IMAGE, address), address in wanted, address)

    def test_places(self):
        self.assertEqual(places(self.IMAGE), [0, 4, 68, 2 ** 32 - 4])
        self.assertEqual(places(((self.IMAGE[0][1],), 0, ())), [])


class Straight(unittest.TestCase):
    def goes_on(self, instruction, facts, wanted, others=()):
        self.assertEqual(ways_of(instruction, facts, others=others), [(68, wanted)], instruction)

    def test_illegal_words_and_exit(self):
        for word in (0, 39 << 26, TOP, encode(("add", 1, 2, 3)) + 1):
            self.assertEqual(ways_of(word), [])
        self.assertEqual(ways_of(("exit", 1)), [])

    def test_ops_of_registers(self):
        facts = facts_of(r1=row(6), r2=row(1, 2), r3=span(5, 9))
        for op, fact in (
            ("add", row(7, 8)), ("sub", row(4, 5)), ("mul", row(6, 12)), ("and", row(0, 2)), ("or", row(6, 7)),
            ("xor", row(4, 7)), ("shl", row(12, 24)), ("shr", row(1, 3)), ("sar", row(1, 3)), ("slt", row(0)),
            ("sltu", row(0)), ("divu", row(3, 6)), ("remu", row(0)),
        ):
            self.goes_on((op, 4, 1, 2), facts, facts_of(r1=row(6), r2=row(1, 2), r3=span(5, 9), r4=fact))
        self.goes_on(("add", 1, 3, 1), facts, facts_of(r1=span(11, 15), r2=row(1, 2), r3=span(5, 9)))

    def test_ops_of_an_immediate(self):
        facts = facts_of(r1=row(6), r3=span(5, 9))
        for op, imm, fact in (
            ("addi", -1, row(5)), ("andi", 3, row(2)), ("ori", -1, row(TOP)), ("xori", 7, row(1)), ("shli", 33, row(12)),
            ("shri", 1, row(3)), ("sari", 1, row(3)), ("slti", 7, row(1)), ("slti", -1, row(0)),
        ):
            self.goes_on((op, 4, 1, imm), facts, facts_of(r1=row(6), r3=span(5, 9), r4=fact))
        self.goes_on(("andi", 3, 3, 15), facts, facts_of(r1=row(6), r3=row(*range(16))))
        self.goes_on(("addi", 3, 3, 1), facts, facts_of(r1=row(6), r3=span(6, 10)))

    def test_lui(self):
        self.goes_on(("lui", 1, 0), facts_of(r1=row(7)), facts_of(r1=row(0)))
        self.goes_on(("lui", 15, 2 ** 18 - 1), NOTHING_KNOWN, facts_of(r15=row(2 ** 32 - 2 ** 14)))

    def test_get_put_and_stores(self):
        facts = facts_of(r1=row(7), r2=span(1, 2))
        self.goes_on(("get", 1), facts, facts_of(r2=span(1, 2)))
        for instruction in (("put", 1), ("sw", 1, 2, 0), ("sb", 1, 2, 0)):
            self.goes_on(instruction, facts, facts)

    def test_a_result_for_register_0_is_lost(self):
        for instruction in (
            ("add", 0, 1, 1), ("addi", 0, 1, 5), ("lui", 0, 5), ("lw", 0, 1, 0), ("lb", 0, 1, 0), ("lbu", 0, 1, 0),
            ("get", 0),
        ):
            self.goes_on(instruction, facts_of(r1=row(7)), facts_of(r1=row(7)))

    def test_register_0_is_read_as_0(self):
        self.goes_on(("addi", 1, 0, 5), NOTHING_KNOWN, facts_of(r1=row(5)))
        self.goes_on(("add", 1, 0, 0), NOTHING_KNOWN, facts_of(r1=row(0)))

    def test_behind_the_last_address(self):
        self.assertEqual(ways_of(("get", 1), ZEROS, 2 ** 32 - 4), [(0, (row(0), None, *ZEROS[2:]))])

    def test_the_facts_stay_as_they_were(self):
        facts = facts_of(r1=row(7, 8), r2=span(1, 2))
        for instruction in (
            ("add", 1, 1, 2), ("addi", 2, 1, 2), ("lui", 1, 3), ("lw", 1, 1, 4), ("beq", 1, 2, 3), ("bltu", 2, 1, 3),
            ("jal", 1, 3), ("jalr", 1, 1, 0), ("get", 1), ("exit", 1),
        ):
            ways_of(instruction, facts)
            self.assertEqual(facts, facts_of(r1=row(7, 8), r2=span(1, 2)), instruction)


class Loads(unittest.TestCase):
    CONSTANT = constant_segment(128, bytes_of([24, 28, TOP, 24]))
    WRITABLE = data_segment(256, bytes_of([1, 2]))

    def loaded(self, instruction, fact):
        others = (self.CONSTANT, self.WRITABLE)
        (target, facts), = ways_of(instruction, facts_of(r2=fact), others=others)
        self.assertEqual(target, 68)
        self.assertEqual(facts[2:], (fact, *[None] * 13))
        return facts[1]

    def test_bytes(self):
        for fact in (row(128), row(256), None, row(4)):
            self.assertEqual(self.loaded(("lbu", 1, 2, 0), fact), span(0, 255))
            self.assertIsNone(self.loaded(("lb", 1, 2, 0), fact))

    def test_words_of_constants(self):
        for fact, imm, wanted in (
            (row(128), 0, row(24)), (row(128, 132), 0, row(24, 28)), (row(128, 140), 0, row(24)),
            (row(0, 4), 128, row(24, 28)), (row(132, 136), 0, row(28, TOP)), (row(144), -8, row(TOP)),
            (row(TOP, 3), 129, row(24, 28)), (row(120), 8, row(24)),
        ):
            self.assertEqual(self.loaded(("lw", 1, 2, imm), fact), wanted, (fact, imm))

    def test_the_code_is_constant_too(self):
        word = encode(("lw", 1, 2, 0))
        self.assertEqual(self.loaded(("lw", 1, 2, 0), row(64)), row(word))

    def test_addresses_at_which_no_word_can_be_loaded_do_not_count(self):
        for fact, wanted in (
            (row(128, 144), row(24)), (row(129, 132), row(28)), (row(0, 4, 136), row(TOP)), (row(0, 126), None),
            (row(129), None), (row(144), None),
        ):
            self.assertEqual(self.loaded(("lw", 1, 2, 0), fact), wanted)

    def test_words_that_are_writable(self):
        for fact in (row(256), row(128, 256), row(128, 260), row(0, 256)):
            self.assertIsNone(self.loaded(("lw", 1, 2, 0), fact))
        self.assertEqual(self.loaded(("lw", 1, 2, 0), row(128, 264)), row(24))

    def test_addresses_that_are_no_row(self):
        for fact in (None, span(128, 129), span(128, 132)):
            self.assertIsNone(self.loaded(("lw", 1, 2, 0), fact))

    def test_sixteen_words(self):
        others = (constant_segment(128, bytes_of(range(100, 116))),)
        fact = row(*range(128, 192, 4))
        (_, facts), = ways_of(("lw", 1, 2, 0), facts_of(r2=fact), others=others)
        self.assertEqual(facts[1], row(*range(100, 116)))


class Jumps(unittest.TestCase):
    def test_jal(self):
        self.assertEqual(ways_of(("jal", 0, 5)), [(84, NOTHING_KNOWN)])
        self.assertEqual(ways_of(("jal", 3, -2)), [(56, facts_of(r3=row(68)))])
        self.assertEqual(ways_of(("jal", 3, -17)), [(TOP - 3, facts_of(r3=row(68)))])
        self.assertEqual(ways_of(("jal", 1, 2), ZEROS, 2 ** 32 - 4), [(4, ZEROS)])

    def test_jalr_of_a_row(self):
        facts = facts_of(r2=row(4, 5, TOP))
        self.assertEqual(allowed_targets(image_at(("jalr", 0, 2, 1)), 64, facts), [0, 5, 6])
        self.assertEqual(ways_of(("jalr", 0, 2, 1), facts), [(0, facts), (5, facts), (6, facts)])
        behind = facts_of(r2=row(4, 5, TOP), r3=row(68))
        self.assertEqual(ways_of(("jalr", 3, 2, 0), facts), [(4, behind), (5, behind), (TOP, behind)])

    def test_jalr_that_writes_the_register_of_its_target(self):
        self.assertEqual(ways_of(("jalr", 2, 2, -4), facts_of(r2=row(4, 8))), [
            (0, facts_of(r2=row(68))), (4, facts_of(r2=row(68))),
        ])

    def test_jalr_of_register_0(self):
        self.assertEqual(ways_of(("jalr", 0, 0, -4)), [(TOP - 3, NOTHING_KNOWN)])
        self.assertEqual(allowed_targets(image_at(("jalr", 0, 0, 8)), 64, ZEROS), [8])

    def test_jalr_of_any_target(self):
        for fact in (None, span(4, 8), span(0, TOP)):
            self.assertIsNone(ways_of(("jalr", 1, 2, 0), facts_of(r2=fact)))
            self.assertIsNone(allowed_targets(image_at(("jalr", 1, 2, 0)), 64, facts_of(r2=fact)))

    def test_sixteen_targets(self):
        facts = facts_of(r2=row(*range(0, 64, 4)))
        self.assertEqual([target for target, _ in ways_of(("jalr", 0, 2, 4), facts)], list(range(4, 68, 4)))


class Branches(unittest.TestCase):
    def check(self, op, a, b, taken, behind, imm=5):
        """The facts of r1 and r2 on both ways; None where the way is not taken."""
        wanted = [
            (target, facts_of(r1=both[0], r2=both[1])) for target, both in ((68, behind), (64 + 4 * imm, taken)) if both
        ]
        self.assertEqual(ways_of((op, 1, 2, imm), facts_of(r1=a, r2=b)), wanted, (op, a, b))

    def test_both_ways_without_facts(self):
        for op in BRANCHES:
            self.check(op, None, None, (None, None), (None, None))

    def test_targets_ascend(self):
        self.assertEqual([target for target, _ in ways_of(("blt", 1, 2, -3))], [52, 68])
        self.assertEqual([target for target, _ in ways_of(("blt", 1, 2, 3))], [68, 76])
        self.assertEqual([target for target, _ in ways_of(("blt", 1, 2, 1), NOTHING_KNOWN, 2 ** 32 - 4)], [0])
        self.assertEqual([target for target, _ in ways_of(("blt", 1, 2, -17))], [68, TOP - 3])
        self.assertEqual([target for target, _ in ways_of(("blt", 1, 2, 2), NOTHING_KNOWN, 2 ** 32 - 4)], [0, 4])

    def test_decided_ones(self):
        for op, a, b, outcome in (
            ("beq", row(3), row(3), True), ("beq", row(3), row(4, 5), False), ("bne", row(3), row(4, 5), True),
            ("bne", row(3), row(3), False), ("blt", row(TOP), row(0, 1), True), ("blt", row(1), row(0, 1), False),
            ("bge", row(1), row(0, 1), True), ("bge", row(TOP), row(0, 1), False), ("bltu", span(1, 4), span(5, 9), True),
            ("bltu", span(5, 9), span(1, 5), False), ("bgeu", span(5, 9), row(5), True), ("bgeu", row(4), span(5, 9), False),
            ("bgeu", None, row(0), True), ("bltu", None, row(0), False),
        ):
            both = (a, b)
            self.check(op, a, b, both if outcome else None, None if outcome else both)

    def test_equal_operands(self):
        for op in ("beq", "bne"):
            for a, b, equal, other in (
                (row(1, 2, 3), row(2, 3, 4), (row(2, 3), row(2, 3)), (row(1, 2, 3), row(2, 3, 4))),
                (None, row(7), (row(7), row(7)), (None, row(7))), (row(7), None, (row(7), row(7)), (row(7), None)),
                (row(6, 7), row(7), (row(7), row(7)), (row(6), row(7))),
                (row(7), row(7, 8), (row(7), row(7)), (row(7), row(8))),
                (span(1, 7), row(7), (row(7), row(7)), (span(1, 7), row(7))),
                (span(1, 7), span(7, 9), (row(7), row(7)), (span(1, 7), span(7, 9))),
                (span(1, 7), None, (span(1, 7), span(1, 7)), (span(1, 7), None)),
                (span(1, 7), span(8, 9), None, (span(1, 7), span(8, 9))),
                (span(1, 7), row(0, 8), None, (span(1, 7), row(0, 8))),
                (row(1, 2), row(1, 2), (row(1, 2), row(1, 2)), (row(1, 2), row(1, 2))),
            ):
                self.check(op, a, b, equal if op == "beq" else other, other if op == "beq" else equal)

    def test_ranges_that_bltu_and_bgeu_leave(self):
        for a, b, less, other in (
            (None, row(9), (span(0, 8), row(9)), (span(9, TOP), row(9))),
            (row(9), None, (row(9), span(10, TOP)), (row(9), span(0, 9))),
            (None, row(1), (row(0), row(1)), (span(1, TOP), row(1))),
            (row(0), None, (row(0), span(1, TOP)), (row(0), row(0))),
            (span(3, 12), row(9), (span(3, 8), row(9)), (span(9, 12), row(9))),
            (span(3, 9), row(9), (span(3, 8), row(9)), (row(9), row(9))),
            (row(9), span(9, 12), (row(9), span(10, 12)), (row(9), row(9))),
            (row(3, 8, 9, 12), row(9), (row(3, 8), row(9)), (row(9, 12), row(9))),
            (row(9), row(3, 9, 12), (row(9), row(12)), (row(9), row(3, 9))),
            (None, row(TOP), (span(0, TOP - 1), row(TOP)), (row(TOP), row(TOP))),
            (span(0, 9), span(3, 5), (span(0, 9), span(3, 5)), (span(0, 9), span(3, 5))),
            (row(1, 5), row(2, 3), (row(1, 5), row(2, 3)), (row(1, 5), row(2, 3))),
        ):
            self.check("bltu", a, b, less, other)
            self.check("bgeu", a, b, other, less)

    def test_signed_ones_leave_the_facts(self):
        for op in ("blt", "bge"):
            for a, b in ((None, row(9)), (row(9), span(0, 20)), (row(1, 20), row(9))):
                self.check(op, a, b, (a, b), (a, b))

    def test_register_0_keeps_its_fact(self):
        self.assertEqual(ways_of(("beq", 0, 1, 5)), [(68, NOTHING_KNOWN), (84, facts_of(r1=row(0)))])
        self.assertEqual(ways_of(("bne", 1, 0, 5)), [(68, facts_of(r1=row(0))), (84, NOTHING_KNOWN)])
        self.assertEqual(ways_of(("bltu", 0, 1, 5)), [(68, facts_of(r1=row(0))), (84, facts_of(r1=span(1, TOP)))])
        self.assertEqual(ways_of(("beq", 0, 1, 5), facts_of(r1=span(1, 4))), [(68, facts_of(r1=span(1, 4)))])
        self.assertEqual(ways_of(("beq", 0, 1, 5), facts_of(r1=row(0, 4))), [
            (68, facts_of(r1=row(4))), (84, facts_of(r1=row(0))),
        ])
        self.assertEqual(ways_of(("beq", 0, 0, 5)), [(84, NOTHING_KNOWN)])

    def test_one_register_on_both_sides(self):
        facts = facts_of(r1=row(1, 2))
        self.assertEqual(ways_of(("beq", 1, 1, 5), facts), [(68, facts), (84, facts)])
        self.assertEqual(ways_of(("beq", 1, 1, 5), facts_of(r1=row(1))), [(84, facts_of(r1=row(1)))])

    def test_two_ways_to_one_target_are_joined(self):
        self.check("beq", row(1, 2), row(2), None, (row(1, 2), row(2)), imm=1)
        self.check("bltu", None, row(9), None, (None, row(9)), imm=1)
        self.check("beq", span(1, 7), row(7), None, (span(1, 7), row(7)), imm=1)
        self.check("beq", span(1, 7), span(8, 9), None, (span(1, 7), span(8, 9)), imm=1)


class Steps(unittest.TestCase):
    """What the machine does is always among the ways."""

    def operands(self, chance, op):
        imm = chance.choice((-8192, -4, -1, 0, 1, 2, 4, 31, 255, 8191))
        some = [chance.choice((0, 1, 2, 15)) for _ in range(3)]
        if op in OPS[:13]:
            return (op, *some)
        if op == "lui":
            return (op, some[0], chance.choice((0, 1, 2 ** 18 - 1)))
        if op == "jal":
            return (op, some[0], chance.choice((-131072, -1, 0, 1, 131071)))
        return (op, some[0]) if op in ("get", "put", "exit") else (op, some[0], some[1], imm)

    def fact(self, chance):
        low = chance.choice((0, 1, 5, 64, 125, 128, 252, 2 ** 31 - 2, 2 ** 32 - 40))
        kind = chance.randrange(4)
        if kind == 0:
            return None
        if kind == 1:
            return row(*sorted({(low + chance.choice((0, 1, 2, 3, 4, 8))) % 2 ** 32 for _ in range(chance.randint(1, 5))}))
        return span(low, low + chance.randint(1, 39))

    def word(self, chance, fact):
        if fact is None:
            return chance.choice((0, 1, 7, 64, 128, 255, 256, 2 ** 31, TOP))
        return chance.choice(fact[1]) if fact[0] == "words" else chance.randint(fact[1], fact[2])

    def test_all_ops(self):
        chance = random.Random(11)
        for op in OPS:
            for _ in range(150):
                self.one(chance, self.operands(chance, op))

    def one(self, chance, instruction):
        others = (constant_segment(128, bytes_of([24, 28, TOP, 5])), data_segment(256, bytes_of([1, 2])))
        image = image_at(instruction, 64, *others)
        facts = facts_of(**{f"r{number}": self.fact(chance) for number in (1, 2, 15)})
        registers = [self.word(chance, fact) for fact in facts]
        state = (tuple(registers), 64, *start(image)[2:])
        state = step(image, [chance.randrange(256)], state)
        if state[5] != GOES_ON:
            return
        found = ways(image, 64, facts)
        if found is not None:
            self.assertEqual([target for target, _ in found], sorted({target for target, _ in found}))
            behind = dict(found)[state[1]]
            for fact, word in zip(behind, state[0]):
                self.assertTrue(allows(fact, word), (instruction, facts, state))
            self.assertEqual(behind[0], row(0))


if __name__ == "__main__":
    unittest.main()
