import random
import unittest

from helpers import TOP, ZEROS, bytes_of, constant_segment, data_segment, facts_of, image_of, row, span
from samples import MEMORY, chance_images
from restitch.holding import plain
from restitch.machine import step, start
from restitch.solve import solve
from restitch.symbols import Pool
from restitch.walk import body_way, old_way, settle

FREE = facts_of()


class Case(unittest.TestCase):
    def setUp(self):
        self.pool = Pool()

    def old(self, code, steps, *others, facts=None, address=0):
        """The way over code at address 0; facts is a dict of the facts of addresses, or free ones."""
        image = image_of(code, *others)
        table = plain(image) if facts is None else tuple(sorted(facts.items()))
        return old_way(self.pool, image, table, address, steps)

    def at(self, r):
        return self.pool.term(("in", r))

    def word(self, w):
        return self.pool.word(w)

    def node(self, *node):
        return self.pool.term(node)

    def plus(self, r, w):
        return self.pool.normal("add", self.at(r), self.word(w))


class Registers(Case):
    def test_no_steps(self):
        registers, events, begun, known, last = self.old([("add", 1, 2, 3)], 0)
        self.assertEqual(list(registers), [self.word(0)] + [self.at(r) for r in range(1, 16)])
        self.assertEqual((events, begun, known, last), ([], [], [], ("at", 0)))

    def test_facts_of_one_word_at_the_beginning(self):
        facts = facts_of(r1=row(7), r2=row(7, 8), r3=span(0, 9), r15=row(0))
        registers = self.old([("add", 1, 2, 3)], 0, facts={0: facts})[0]
        self.assertEqual([registers[r] for r in (0, 1, 2, 3, 15)], [self.word(0), self.word(7), self.at(2), self.at(3), self.word(0)])

    def test_facts_of_another_address_say_nothing(self):
        registers = self.old([("add", 1, 2, 3), ("add", 1, 2, 3)], 0, facts={0: ZEROS}, address=4)[0]
        self.assertEqual(registers[1], self.at(1))

    def test_alu_instructions(self):
        code = [("add", 1, 2, 3), ("addi", 2, 2, -1), ("xor", 3, 4, 5), ("shri", 4, 4, 33), ("slti", 5, 6, -3), ("add", 0, 1, 1)]
        registers, events, begun, known, last = self.old(code, 6)
        normal = self.pool.normal
        self.assertEqual(registers[1], normal("add", self.at(2), self.at(3)))
        self.assertEqual(registers[2], self.plus(2, TOP))
        self.assertEqual(registers[3], normal("xor", self.at(4), self.at(5)))
        self.assertEqual(registers[4], normal("shr", self.at(4), self.word(1)))
        self.assertEqual(registers[5], normal("slt", self.at(6), self.word(TOP - 2)))
        self.assertEqual(registers[0], self.word(0))
        self.assertEqual((events, known, last), ([], [], ("at", 24)))
        self.assertEqual(begun, [(4 * k, 0) for k in range(6)])

    def test_lui_and_jal(self):
        registers, _, begun, _, last = self.old([("lui", 1, 5), ("jal", 2, 2), 0, ("jal", 0, -3)], 3)
        self.assertEqual((registers[1], registers[2]), (self.word(5 << 14), self.word(8)))
        self.assertEqual((begun, last), ([(0, 0), (4, 0), (12, 0)], ("at", 0)))

    def test_jal_wraps(self):
        image = image_of([("jal", 3, 1)], address=2 ** 32 - 4)
        registers, _, _, _, last = old_way(self.pool, image, plain(image), 2 ** 32 - 4, 1)
        self.assertEqual((registers[3], last), (self.word(0), ("at", 0)))


class Ends(Case):
    def last(self, code, steps, **more):
        found = self.old(code, steps, **more)
        return None if found is None else found[4]

    def test_exit(self):
        self.assertEqual(self.last([("addi", 1, 1, 4), ("exit", 1)], 2), ("exit", self.plus(1, 4)))

    def test_an_illegal_word_and_no_code_count_as_a_step(self):
        registers, events, begun, _, last = self.old([("addi", 1, 1, 4), 0], 2)
        self.assertEqual((begun, last), ([(0, 0), (4, 0)], ("trap", "illegal", 4)))
        registers, events, begun, _, last = self.old([("addi", 1, 1, 4)], 2)
        self.assertEqual((begun, last), ([(0, 0), (4, 0)], ("trap", "fetch", 4)))
        self.assertEqual(self.last([("exit", 0)], 1, address=2), ("trap", "fetch", 2))

    def test_only_the_last_step_may_end_the_way(self):
        for code in ([("exit", 1)], [0], [("beq", 1, 2, 3)], [("jalr", 0, 1, 0)], []):
            code = [("addi", 1, 1, 4), *code]
            self.assertIsNotNone(self.last(code, 1))
            self.assertIsNotNone(self.last(code, 2))
            self.assertIsNone(self.last(code, 3))
            self.assertIsNone(self.last(code, 20000))

    def test_a_branch(self):
        self.assertEqual(self.last([("addi", 1, 1, 4), ("bltu", 1, 2, -3)], 2), ("branch", "bltu", self.plus(1, 4), self.at(2), TOP - 7, 8))

    def test_a_branch_that_its_terms_decide(self):
        for op, equal, less in (("beq", 12, 8), ("bne", 8, 12), ("blt", 8, 12), ("bge", 12, 8), ("bltu", 8, 12), ("bgeu", 12, 8)):
            self.assertEqual(self.last([0, (op, 1, 1, 2)], 1, address=4), ("at", equal), op)
            code = [("addi", 1, 2, 5), ("addi", 3, 2, 5), (op, 1, 3, 1), 0, 0]
            self.assertEqual(self.last(code, 3), ("at", 12), op)
            code = [("addi", 1, 0, 5), (op, 0, 1, 2)]
            self.assertEqual(self.last(code, 2), ("at", 12 if less == 12 else 8), op)

    def test_a_branch_that_facts_decide(self):
        code = [("beq", 1, 2, 2), ("exit", 0), ("exit", 1)]
        for facts, end in (
            (facts_of(r1=row(1, 2), r2=row(3, 4)), ("at", 4)),
            (facts_of(r1=row(1, 2), r2=row(2, 4)), ("branch", "beq", self.at(1), self.at(2), 8, 4)),
            (facts_of(r1=row(5), r2=span(8, 9)), ("at", 4)),
        ):
            self.assertEqual(self.last(code, 1, facts={0: facts}), end)
        code = [("bltu", 1, 2, 2), ("exit", 0), ("exit", 1)]
        self.assertEqual(self.last(code, 1, facts={0: facts_of(r1=span(0, 5), r2=span(6, 9))}), ("at", 8))

    def test_the_facts_of_a_branch_go_ahead_of_its_terms(self):
        # A way without any run: the terms would say that they are equal.
        code = [("addi", 1, 0, 0), ("beq", 1, 0, 2)]
        self.assertEqual(self.last(code, 2, facts={4: facts_of(r1=row(3, 4))}), ("at", 8))

    def test_a_branch_to_the_next_word(self):
        code = [("beq", 1, 2, 1), ("exit", 0)]
        self.assertEqual(self.last(code, 1), ("at", 4))
        # Without facts its terms must decide it.
        self.assertEqual(self.last(code, 1, facts={}), ("branch", "beq", self.at(1), self.at(2), 4, 4))
        self.assertEqual(self.last([("beq", 1, 1, 1)], 1, facts={}), ("at", 4))

    def test_a_jump_whose_target_the_facts_know(self):
        code = [("jalr", 15, 1, 4), ("exit", 0)]
        registers, _, _, _, last = self.old(code, 1, facts={0: facts_of(r1=row(8))})
        self.assertEqual((registers[15], last), (self.word(4), ("at", 12)))
        self.assertEqual(self.old(code, 1, facts={0: facts_of(r1=row(TOP))})[4], ("at", 3))

    def test_a_jump_to_a_word(self):
        code = [("addi", 1, 0, 8), ("jalr", 1, 1, 4), ("exit", 0), ("exit", 0)]
        registers, _, _, _, last = self.old(code, 2)
        self.assertEqual((registers[1], last), (self.word(8), ("at", 12)))
        facts = {0: FREE, 4: facts_of(r1=row(8, 12))}
        self.assertEqual(self.old(code, 2, facts=facts)[4], ("at", 12))
        # A word that the facts do not allow is none.
        facts = {0: FREE, 4: facts_of(r1=row(4, 12))}
        self.assertEqual(self.old(code, 2, facts=facts)[4], ("through", self.word(12), [8, 16], 1, 8))

    def test_a_jump_by_register_0(self):
        for facts in (None, {}):
            self.assertEqual(self.last([("jalr", 0, 0, 44)], 1, facts=facts), ("at", 44))

    def test_a_jump_through_a_register(self):
        registers, _, _, _, last = self.old([("jalr", 15, 1, 4)], 1)
        self.assertEqual(last, ("through", self.plus(1, 4), None, 15, 4))
        # What the jump writes is not written yet.
        self.assertEqual(registers[15], self.at(15))
        self.assertEqual(self.last([("jalr", 2, 1, -4)], 1, facts={0: facts_of(r1=row(0, 2, 8))})[2], [4, TOP - 3, TOP - 1])
        self.assertEqual(self.last([("jalr", 2, 1, 0)], 1, facts={0: facts_of(r1=span(0, 8))})[2], None)
        self.assertEqual(self.last([("jalr", 2, 1, 0)], 1, facts={})[2], None)

    def test_20000_steps(self):
        registers, events, begun, _, last = self.old([("addi", 1, 1, 3), ("put", 1), ("jal", 0, -2)], 20000)
        self.assertEqual((len(begun), len(events), last), (20000, 6667, ("at", 8)))
        self.assertEqual(registers[1], self.plus(1, 20001))


class Events(Case):
    def test_each_kind(self):
        code = [
            ("get", 1), ("lw", 2, 3, 4), ("sw", 2, 4, -4), ("sb", 0, 5, 0), ("put", 1), ("lb", 0, 6, 0), ("get", 0), ("lbu", 7, 0, 9), ("get", 8),
        ]
        registers, events, begun, known, last = self.old(code, 9)
        zero = self.word(0)
        self.assertEqual(events, [
            ("get", zero, zero, 0),
            ("lw", self.plus(3, 4), zero, 4),
            ("sw", self.plus(4, TOP - 3), self.node("load", 0), 8),
            ("sb", self.at(5), zero, 12),
            ("put", zero, self.node("get", 0), 16),
            ("lb", self.at(6), zero, 20),
            ("get", zero, zero, 24),
            ("lbu", self.word(9), zero, 28),
            ("get", zero, zero, 32),
        ])
        self.assertEqual([registers[r] for r in (0, 1, 2, 7, 8)], [
            zero, self.node("get", 0), self.node("load", 0), self.node("load", 2), self.node("get", 2),
        ])
        self.assertEqual(begun, [(4 * k, k) for k in range(9)])
        self.assertEqual((known, last), ([], ("at", 36)))

    def test_a_value_is_told_as_the_register_holds_it(self):
        facts = {0: facts_of(r1=span(0, 3)), 4: facts_of(r2=row(0))}
        code = [("shri", 2, 1, 2), ("put", 2)]
        _, events, _, known, _ = self.old(code, 2, facts=facts)
        term = self.pool.normal("shr", self.at(1), self.word(2))
        self.assertEqual(known, [(term, 0, 0)])
        self.assertEqual(events, [("put", self.word(0), term, 4)])


class Known(Case):
    def test_a_constant_that_is_loaded(self):
        image = image_of([("lw", 1, 0, 64), ("addi", 2, 1, 4), ("put", 2)], constant_segment(64, bytes_of([9])))
        registers, events, _, known, _ = old_way(self.pool, image, solve(image), 0, 3)
        self.assertEqual(known, [(self.node("load", 0), 9, 1)])
        self.assertEqual(events[1][2], self.pool.normal("add", self.node("load", 0), self.word(4)))
        # The second register's term is a word when it is settled: nothing new becomes known.
        self.assertEqual(settle(self.pool, known, -1, registers[2]), self.word(13))

    def test_each_register_ahead_of_each_step(self):
        facts = {0: FREE, 4: facts_of(r1=row(5), r2=row(6)), 8: facts_of(r3=row(7), r1=row(5))}
        _, _, _, known, _ = self.old([("get", 9), ("put", 9), ("put", 9)], 3, facts=facts)
        self.assertEqual(known, [(self.at(1), 5, 1), (self.at(2), 6, 1), (self.at(3), 7, 2)])

    def test_ahead_of_the_last_step_too_but_not_behind_it(self):
        facts = {0: FREE, 4: facts_of(r1=row(5))}
        self.assertEqual(self.old([("get", 9), ("exit", 9)], 1, facts=facts)[3], [])
        self.assertEqual(self.old([("get", 9), ("exit", 9)], 2, facts=facts)[3], [(self.at(1), 5, 1)])

    def test_a_settled_term_becomes_known(self):
        facts = {0: FREE, 4: facts_of(r1=row(5)), 8: facts_of(r3=row(1))}
        code = [("get", 9), ("xor", 3, 1, 2), ("put", 3)]
        _, _, _, known, _ = self.old(code, 3, facts=facts)
        settled = self.pool.normal("xor", self.at(2), self.word(5))
        self.assertEqual(known, [(self.at(1), 5, 1), (settled, 1, 1)])

    def test_two_registers_with_one_term(self):
        facts = {0: FREE, 4: facts_of(r1=row(5), r2=row(5))}
        self.assertEqual(self.old([("addi", 2, 1, 0), ("put", 2)], 2, facts=facts)[3], [(self.at(1), 5, 0)])

    def test_what_is_known_decides_branches_and_jumps(self):
        facts = {0: FREE, 4: facts_of(r1=row(12)), 8: FREE}
        self.assertEqual(self.old([("get", 9), ("get", 9), ("bne", 1, 0, 5)], 3, facts=facts)[4], ("at", 28))
        self.assertEqual(self.old([("get", 9), ("get", 9), ("jalr", 0, 1, 4)], 3, facts=facts)[4], ("at", 16))

    def test_addresses_are_settled_by_what_is_known_with_fewer_events_ahead(self):
        facts = {0: FREE, 4: facts_of(r1=row(12)), 8: facts_of(r1=row(12), r2=row(16))}
        code = [("get", 9), ("lw", 3, 1, 4), ("sw", 3, 2, 0), ("sw", 3, 2, 0)]
        _, events, _, known, _ = self.old(code, 4, facts=facts)
        self.assertEqual(known, [(self.at(1), 12, 1), (self.at(2), 16, 2)])
        self.assertEqual([event[1] for event in events], [self.word(0), self.plus(1, 4), self.at(2), self.word(16)])
        # The side of a book settles them as the old side does.
        registers = [self.word(0)] + [self.at(r) for r in range(1, 16)]
        body = [("do", instruction, 4 * k) for k, instruction in enumerate(code)]
        self.assertEqual(body_way(self.pool, registers, body, known)[1], events)

    def test_settle(self):
        pool = self.pool
        a, b = self.at(1), self.at(2)
        both = pool.normal("add", a, b)
        known = [(a, 5, 0), (b, 6, 2)]
        self.assertEqual(settle(pool, known, 0, both), self.plus(2, 5))
        self.assertEqual(settle(pool, known, 1, both), self.plus(2, 5))
        self.assertEqual(settle(pool, known, 2, both), self.word(11))
        self.assertEqual(settle(pool, known, -1, both), self.word(11))
        self.assertEqual(settle(pool, [], -1, both), both)
        self.assertEqual(settle(pool, [(both, 9, 1)], 0, both), both)
        self.assertEqual(settle(pool, [(both, 9, 1)], 3, pool.normal("and", both, self.word(8))), self.word(8))


class Bodies(Case):
    def body(self, *lines, known=(), registers=None):
        start = [self.word(0)] + [self.at(r) for r in range(1, 16)] if registers is None else registers
        return body_way(self.pool, start, lines, list(known))

    def test_lines(self):
        lines = (
            ("count", 3), ("li", 1, 77), ("do", ("put", 1), 4), ("count", 3), ("count", 2), ("do", ("lui", 2, 3), 0),
            ("do", ("add", 3, 1, 4), 8), ("do", ("get", 5), 12), ("li", 0, 5), ("count", 9),
        )
        registers, events, counts = self.body(*lines)
        self.assertEqual([registers[r] for r in (0, 1, 2, 3, 5)], [
            self.word(0), self.word(77), self.word(3 << 14), self.plus(4, 77), self.node("get", 0),
        ])
        self.assertEqual(events, [("put", self.word(0), self.word(77), 4), ("get", self.word(0), self.word(0), 12)])
        self.assertEqual(counts, [(3, 0), (3, 1), (2, 1), (9, 2)])

    def test_nothing(self):
        registers = [self.word(0)] + [self.node("loose", r) for r in range(1, 16)]
        self.assertEqual(self.body(registers=registers), (registers, [], []))

    def test_the_registers_that_are_passed_stay(self):
        registers = [self.word(0)] + [self.node("loose", r) for r in range(1, 16)]
        before = list(registers)
        self.body(("li", 4, 9), registers=registers)
        self.body(("li", 4, 9), registers=tuple(registers))
        self.assertEqual(registers, before)


class Quiet(Case):
    """Loads that are quiet, on the old side and on a book's."""

    def both(self, *code):
        image = image_of(code)
        old = old_way(self.pool, image, plain(image), 0, len(code))
        start = [self.word(0)] + [self.at(r) for r in range(1, 16)]
        lines = [("do", instruction, 4 * k) for k, instruction in enumerate(code)]
        registers, events, counts = body_way(self.pool, start, lines, [])
        self.assertEqual((registers, events, counts), (old[0], old[1], []))
        return registers, events

    def quiet(self, first, second, term):
        registers, events = self.both(first, second)
        self.assertEqual(len(events), 1, (first, second))
        self.assertEqual(registers[second[1]], term, (first, second))

    def loud(self, *code):
        registers, events = self.both(*code)
        self.assertEqual(len(events), len(code), code)

    def low(self, t):
        return self.pool.normal("and", t, self.word(255))

    def signed(self, t):
        return self.pool.normal("sar", self.pool.normal("shl", t, self.word(24)), self.word(24))

    def test_each_pair_of_ops(self):
        load, stored = self.node("load", 0), self.at(4)
        self.quiet(("lw", 1, 3, 8), ("lw", 2, 3, 8), load)
        self.quiet(("sw", 4, 3, 8), ("lw", 2, 3, 8), stored)
        self.quiet(("lbu", 1, 3, 8), ("lbu", 2, 3, 8), load)
        self.quiet(("lb", 1, 3, 8), ("lb", 2, 3, 8), load)
        self.quiet(("lb", 1, 3, 8), ("lbu", 2, 3, 8), self.low(load))
        self.quiet(("sb", 4, 3, 8), ("lbu", 2, 3, 8), self.low(stored))
        self.quiet(("lbu", 1, 3, 8), ("lb", 2, 3, 8), self.signed(load))
        self.quiet(("sb", 4, 3, 8), ("lb", 2, 3, 8), self.signed(stored))

    def test_pairs_that_tell_nothing(self):
        for first in (("lb", 1, 3, 8), ("lbu", 1, 3, 8), ("sb", 4, 3, 8)):
            self.loud(first, ("lw", 2, 3, 8))
        for first in (("lw", 1, 3, 8), ("sw", 4, 3, 8)):
            for op in ("lb", "lbu"):
                self.loud(first, (op, 2, 3, 8))

    def test_another_address(self):
        self.loud(("lw", 1, 3, 8), ("lw", 2, 3, 12))
        self.loud(("lw", 1, 3, 8), ("lw", 2, 5, 8))
        self.loud(("lw", 3, 3, 8), ("lw", 2, 3, 8))
        self.loud(("lb", 1, 0, 8), ("lb", 2, 0, 9))

    def test_the_address_counts_and_not_the_register(self):
        registers, events = self.both(("lw", 1, 3, 8), ("addi", 5, 3, 16), ("lw", 2, 5, -8))
        self.assertEqual((len(events), registers[2]), (1, self.node("load", 0)))
        registers, events = self.both(("lw", 1, 0, 8), ("addi", 5, 0, 16), ("lw", 2, 5, -8))
        self.assertEqual((len(events), registers[2]), (1, self.node("load", 0)))

    def test_loads_between_do_not_matter(self):
        registers, events = self.both(("lw", 1, 3, 8), ("lw", 2, 5, 0), ("lb", 6, 3, 8), ("get", 9), ("put", 9), ("lw", 7, 3, 8))
        self.assertEqual((len(events), registers[7]), (5, self.node("load", 0)))

    def test_a_store_that_may_touch(self):
        self.loud(("lw", 1, 3, 8), ("sw", 4, 5, 0), ("lw", 2, 3, 8))
        self.loud(("lw", 1, 3, 8), ("sb", 4, 5, 0), ("lw", 2, 3, 8))
        self.loud(("lw", 1, 3, 8), ("sw", 4, 0, 8), ("lw", 2, 3, 8))
        for near in (8, 9, 10, 11):
            self.loud(("lw", 1, 3, 8), ("sb", 4, 3, near), ("lw", 2, 3, 8))
        for near in (5, 6, 7, 9, 10, 11):
            self.loud(("lw", 1, 3, 8), ("sw", 4, 3, near), ("lw", 2, 3, 8))
        for near in (5, 6, 7, 8):
            self.loud(("lb", 1, 3, 8), ("sw", 4, 3, near), ("lbu", 2, 3, 8))

    def test_a_store_that_does_not_touch(self):
        for near in (4, 12, 0, -8192, 8191):
            registers, events = self.both(("lw", 1, 3, 8), ("sw", 4, 3, near), ("lw", 2, 3, 8))
            self.assertEqual((len(events), registers[2]), (2, self.node("load", 0)))
        for near in (7, 12):
            registers, events = self.both(("sw", 6, 3, 8), ("sb", 4, 3, near), ("lw", 2, 3, 8))
            self.assertEqual((len(events), registers[2]), (2, self.at(6)))
        for near in (4, 9):
            registers, events = self.both(("lb", 1, 3, 8), ("sw", 4, 3, near), ("lb", 2, 3, 8))
            self.assertEqual((len(events), registers[2]), (2, self.node("load", 0)))
        for near in (7, 9):
            registers, events = self.both(("lb", 1, 3, 8), ("sb", 4, 3, near), ("lb", 2, 3, 8))
            self.assertEqual((len(events), registers[2]), (2, self.node("load", 0)))

    def test_bytes_around_the_end_of_all_addresses(self):
        self.loud(("lb", 1, 3, 1), ("sw", 4, 3, -2), ("lb", 2, 3, 1))
        self.loud(("lw", 1, 0, -1), ("sb", 4, 0, 2), ("lw", 2, 0, -1))

    def test_the_last_store_tells(self):
        registers, events = self.both(("sw", 4, 3, 8), ("sw", 5, 3, 8), ("lw", 2, 3, 8))
        self.assertEqual((len(events), registers[2]), (2, self.at(5)))
        registers, events = self.both(("lbu", 1, 3, 8), ("sb", 5, 3, 8), ("lbu", 2, 3, 8))
        self.assertEqual((len(events), registers[2]), (2, self.low(self.at(5))))

    def test_quiet_loads_in_between_change_nothing(self):
        # Lines that nothing needs may go; what a later load gives must stay the same term.
        for first in (("sb", 4, 3, 8), ("lb", 1, 3, 8), ("lbu", 1, 3, 8)):
            for between in ("lb", "lbu"):
                for last in ("lb", "lbu"):
                    with_it = self.both(first, (between, 6, 3, 8), (last, 2, 3, 8))
                    without = self.both(first, (last, 2, 3, 8))
                    self.assertEqual((with_it[0][2], len(with_it[1])), (without[0][2], len(without[1])))

    def test_quiet_loads_are_not_numbered(self):
        registers, events = self.both(("lw", 1, 3, 8), ("lw", 2, 3, 8), ("lw", 5, 3, 4))
        self.assertEqual((len(events), registers[5]), (2, self.node("load", 1)))

    def test_sums_of_many_terms_as_addresses(self):
        code = [("lw", 1, number, 0) for number in range(2, 15)] + [("get", 1)]
        for number in range(2, 15):
            code.append(("add", 1, 1, number))
        code += [("lw", 5, 1, 0), ("sw", 6, 1, 4), ("lw", 7, 1, 0), ("lw", 8, 1, 4)]
        registers, events = self.both(*code)
        self.assertEqual((registers[7], registers[8]), (registers[5], self.at(6)))


class Values(unittest.TestCase):
    """The terms of a way have the values of the machine's run."""

    def follow(self, image, data, table, chance):
        state = start(image)
        for _ in range(chance.randrange(40)):
            state = step(image, data, state)
        if state[5] != ("none",):
            return
        for steps in (1, 2, 5, 20):
            pool = Pool()
            way = old_way(pool, image, table, state[1], steps)
            if way is None:
                return
            later, gets, loads, trapped = state, [], [], False
            for address, ahead in way[2]:
                if later[1] != address:
                    # Only what trapped may be elsewhere.
                    self.assertNotEqual(later[5], ("none",))
                    return
                before, later = later, step(image, data, later)
                trapped = trapped or later[5][0] == "trap" and later[5][1] in ("load", "store")
                if not trapped and later[5] == ("none",) and ahead < len(way[1]) and way[1][ahead][3] == address:
                    op = way[1][ahead][0]
                    if op == "get":
                        gets.append(data[before[3]] if before[3] < len(data) else TOP)
                    elif op in ("lw", "lb", "lbu"):
                        loads.append(self.loaded(image, before, op, pool, way, ahead, state, loads, gets))
            if not trapped:
                for number in range(16):
                    if way[4][0] == "at":
                        self.assertEqual(pool.value_of(way[0][number], list(state[0]), loads, gets), later[0][number])
                for term, word, _ in way[3]:
                    self.assertEqual(pool.value_of(term, list(state[0]), loads, gets), word)

    def loaded(self, image, before, op, pool, way, ahead, state, loads, gets):
        address = pool.value_of(way[1][ahead][1], list(state[0]), loads, gets)
        for (first, values, _, _), memory in zip(image[0], before[2]):
            if first <= address < first + len(values):
                found = memory[address - first:address - first + (4 if op == "lw" else 1)]
                value = sum(byte << (8 * k) for k, byte in enumerate(found))
                return value + 2 ** 32 - 256 if op == "lb" and value >= 128 else value
        self.fail("the load is not allowed")

    def test_values_of_runs(self):
        for chance, image in chance_images(0, 500):
            table = solve(image)
            for _ in range(4):
                self.follow(image, [chance.randrange(256) for _ in range(chance.randrange(9))], table, chance)

    def test_values_of_a_run_with_memory(self):
        for seed in range(40):
            chance = random.Random(seed)
            self.follow(MEMORY, [chance.randrange(256) for _ in range(3)], plain(MEMORY), chance)


class Bounds(Case):
    def test_a_long_way_with_facts_of_deep_terms(self):
        code = [("get", 1)]
        while len(code) < 16000:
            code += [("xor", 1, 1, 2), ("shri", 3, 1, 31), ("shri", 3, 3, 1), ("put", 1), ("sb", 1, 0, 4), ("get", 2)]
        image = image_of(code, data_segment(70000, (0,) * 4))
        table = solve(image)
        found = old_way(self.pool, image, table, 0, 16000)
        self.assertEqual(len(found[2]), 16000)
        self.assertGreater(len(found[3]), 2500)
        lines = [("do", instruction, 4 * k) for k, instruction in enumerate(code[:16000])]
        start = [self.word(0)] * 16
        self.assertEqual(body_way(self.pool, start, lines, found[3])[:2], found[:2])


if __name__ == "__main__":
    unittest.main()
