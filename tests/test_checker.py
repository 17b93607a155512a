import unittest

from helpers import bytes_of, constant_segment, data_segment, facts_of, image_of, row
from samples import ALL, CALLS, ECHO, FIXED, SWITCH, WILD, chance_images
from restitch.checker import check, refusal, row_of
from restitch.first import first_book
from restitch.holding import plain
from restitch.house import WORDS, rewrite
from restitch.weave import count_places

def of_one_block(image, body, end, steps, same=ALL, more=(), facts=None, counters=(), address=None):
    """A book of block 0 for the entry, and blocks of nothing but a row for other addresses.

    more holds tuples (label, address, same); each of these blocks ends by a trap, and so is refused.
    """
    blocks = [(0, tuple(body), end)] + [(label, (), ("trap", "load", 0)) for label, _, _ in more]
    rows = [(0, image[1] if address is None else address, same, steps)]
    rows += [(label, place, kept, 1) for label, place, kept in more]
    book = (tuple(blocks), 0, ())
    return book, (plain(image) if facts is None else facts, tuple(sorted(rows)), counters)


def do(instruction, old):
    return ("do", instruction, old)


class Case(unittest.TestCase):
    def refused(self, image, pair, label, reason):
        self.assertEqual(refusal(image, *pair), (label, reason))
        self.assertIs(check(image, *pair), False)

    def taken(self, image, pair):
        self.assertIsNone(refusal(image, *pair))
        self.assertIs(check(image, *pair), True)


class Block(Case):
    """One block against its way; the other blocks would be refused, but later."""

    def reason(self, code, body, end, steps=None, **more):
        image = code if isinstance(code[0], tuple) and isinstance(code[0][0], tuple) else image_of(code)
        found = refusal(image, *of_one_block(image, body, end, len(code) if steps is None else steps, **more))
        return found[1] if found is not None and found[0] < 1 else None

    def test_it_does_the_same(self):
        code = [("get", 1), ("put", 1), ("exit", 1)]
        body = [do(("get", 1), 0), do(("put", 1), 4)]
        self.assertIsNone(self.reason(code, body, ("exit", 1)))

    def test_other_registers_and_other_ways_to_a_value(self):
        code = [("get", 1), ("addi", 1, 1, 4), ("put", 1), ("exit", 1)]
        body = [do(("get", 7), 0), ("li", 3, 4), do(("add", 9, 3, 7), 99), do(("put", 9), 8), do(("sub", 9, 9, 0), 5)]
        self.assertIsNone(self.reason(code, body, ("exit", 9)))
        body[1] = ("li", 3, 5)
        self.assertEqual(self.reason(code, body, ("exit", 9)), "event")

    def test_steps(self):
        code = [("addi", 1, 1, 4), ("exit", 1)]
        body = [do(("addi", 1, 1, 4), 0)]
        self.assertIsNone(self.reason(code, body, ("exit", 1), steps=2))
        self.assertEqual(self.reason(code, body, ("exit", 1), steps=3), "way")
        self.assertEqual(self.reason(code, body, ("exit", 1), steps=20000), "way")
        self.assertEqual(self.reason(code, body, ("exit", 1), steps=1), "end")
        self.assertEqual(self.reason(code, body, ("exit", 1), steps=0), "end")

    def test_events(self):
        image = image_of([("lw", 1, 2, 64), ("sw", 1, 3, 4), ("get", 4), ("put", 4), ("exit", 5)], data_segment(64, (0,) * 8))
        body = [do(("lw", 1, 2, 64), 0), do(("sw", 1, 3, 4), 4), do(("get", 4), 8), do(("put", 4), 12)]
        self.assertIsNone(self.reason(image, body, ("exit", 5), 5))
        for at in range(4):
            self.assertEqual(self.reason(image, body[:at] + body[at + 1:], ("exit", 5), 5), "event")
            self.assertEqual(self.reason(image, body[:at + 1] + body[at:], ("exit", 5), 5), None if at == 0 else "event")
            self.assertEqual(self.reason(image, body[:at] + [do(body[at][1], body[at][2] + 4)] + body[at + 1:], ("exit", 5), 5), "event")
        for at in range(3):
            changed = list(body)
            changed[at:at + 2] = [body[at + 1], body[at]]
            self.assertEqual(self.reason(image, changed, ("exit", 5), 5), "event")
        for at, instruction in (
            (0, ("lb", 1, 2, 64)), (0, ("lw", 1, 2, 68)), (0, ("lw", 1, 3, 64)), (1, ("sb", 1, 3, 4)), (1, ("sw", 2, 3, 4)),
            (1, ("sw", 1, 3, 8)), (3, ("put", 5)), (2, ("put", 4)),
        ):
            changed = list(body)
            changed[at] = do(instruction, body[at][2])
            self.assertEqual(self.reason(image, changed, ("exit", 5), 5), "event", instruction)

    def test_quiet_loads_may_go_or_come(self):
        image = image_of([("lw", 1, 2, 64), ("lw", 3, 2, 64), ("put", 3), ("exit", 3)], data_segment(64, (0,) * 8))
        for body in (
            [do(("lw", 1, 2, 64), 0), do(("put", 1), 8)],
            [do(("lw", 3, 2, 64), 0), do(("put", 3), 8), do(("lw", 1, 2, 64), 500)],
        ):
            self.assertIsNone(self.reason(image, body, ("exit", body[1][1][1]), 4))
        # The load that is left must be the first one: only its address is told by a trap.
        self.assertEqual(self.reason(image, [do(("lw", 1, 2, 64), 4), do(("put", 1), 8)], ("exit", 1), 4), "event")

    def test_loose_registers(self):
        code = [("addi", 1, 2, 0), ("put", 1), ("exit", 0)]
        body = [do(("put", 2), 4)]
        self.assertIsNone(self.reason(code, body, ("exit", 0), same=(2,)))
        self.assertIsNone(self.reason(code, body, ("exit", 0), same=(2, 15)))
        self.assertEqual(self.reason(code, body, ("exit", 0), same=(1, 3)), "event")
        # Whatever a loose register holds, xor of it with itself is 0.
        self.assertIsNone(self.reason([("exit", 0)], [do(("xor", 4, 5, 5), 0)], ("exit", 4), same=()))
        self.assertEqual(self.reason([("exit", 5)], [], ("exit", 5), same=()), "end")

    def test_go(self):
        code = [("addi", 1, 1, 4), ("jal", 0, 1), ("exit", 0)]
        body = [do(("addi", 1, 1, 4), 0)]
        self.assertIsNone(self.reason(code, body, ("go", 1), 2, more=[(1, 8, ALL)]))
        self.assertEqual(self.reason(code, body, ("go", 1), 2, more=[(1, 4, ALL)]), "end")
        self.assertEqual(self.reason(code, body, ("go", 1), 3, more=[(1, 8, ALL)]), "end")
        self.assertEqual(self.reason(code, [], ("go", 1), 2, more=[(1, 8, ALL)]), "end")
        self.assertIsNone(self.reason(code, [], ("go", 1), 2, more=[(1, 8, ALL[1:])]))
        self.assertIsNone(self.reason(code, [], ("go", 1), 2, same=(2,), more=[(1, 8, (2,))]))
        self.assertEqual(self.reason(code, [], ("go", 1), 2, same=(2,), more=[(1, 8, (2, 3))]), "end")
        self.assertEqual(self.reason(code, body, ("exit", 0), 2), "end")

    def test_if(self):
        code = [("bltu", 1, 2, 2), ("exit", 0), ("exit", 1)]
        more = [(1, 8, ALL), (2, 4, ALL)]
        for end, reason in (
            (("if", "bltu", 1, 2, 1, 2), None),
            (("if", "bgeu", 1, 2, 2, 1), None),
            (("if", "bltu", 1, 2, 2, 1), "end"),
            (("if", "bgeu", 1, 2, 1, 2), "end"),
            (("if", "bltu", 2, 1, 1, 2), "end"),
            (("if", "blt", 1, 2, 1, 2), "end"),
            (("if", "beq", 1, 2, 1, 2), "end"),
            (("if", "bltu", 1, 2, 1, 1), "end"),
            (("if", "bltu", 1, 2, 0, 2), "end"),
            (("go", 1), "end"),
        ):
            self.assertEqual(self.reason(code, [], end, 1, more=more), reason, end)
        self.assertEqual(self.reason(code, [], ("if", "bltu", 1, 2, 1, 2), 1, more=[(1, 8, ALL), (2, 0, ALL)]), "end")
        self.assertEqual(self.reason(code, [("li", 3, 1)], ("if", "bltu", 1, 2, 1, 2), 1, more=more), "end")
        self.assertIsNone(self.reason(code, [("li", 3, 1)], ("if", "bltu", 1, 2, 1, 2), 1, more=[(1, 8, (1, 2)), (2, 4, (1,))]))
        self.assertEqual(self.reason(code, [("li", 3, 1)], ("if", "bltu", 1, 2, 1, 2), 1, more=[(1, 8, (1, 2)), (2, 4, (3,))]), "end")

    def test_opposite_conditions(self):
        for pair in (("beq", "bne"), ("blt", "bge"), ("bltu", "bgeu")):
            for one, other in (pair, pair[::-1]):
                code = [(one, 1, 2, 2), ("exit", 0), ("exit", 1)]
                for op in ("beq", "bne", "blt", "bge", "bltu", "bgeu"):
                    straight = self.reason(code, [], ("if", op, 1, 2, 1, 2), 1, more=[(1, 8, ALL), (2, 4, ALL)])
                    swapped = self.reason(code, [], ("if", op, 1, 2, 2, 1), 1, more=[(1, 8, ALL), (2, 4, ALL)])
                    self.assertEqual((straight is None, swapped is None), (op == one, op == other))

    def test_a_decided_branch_is_no_branch(self):
        code = [("beq", 1, 1, 2), ("exit", 0), ("exit", 1)]
        more = [(1, 8, ALL), (2, 4, ALL)]
        self.assertIsNone(self.reason(code, [], ("go", 1), 1, more=more))
        self.assertEqual(self.reason(code, [], ("if", "beq", 1, 1, 1, 2), 1, more=more), "end")

    def test_exit(self):
        code = [("addi", 1, 1, 3), ("exit", 1)]
        self.assertIsNone(self.reason(code, [do(("addi", 2, 1, 3), 0)], ("exit", 2)))
        self.assertEqual(self.reason(code, [do(("addi", 2, 1, 4), 0)], ("exit", 2)), "end")
        self.assertEqual(self.reason(code, [], ("exit", 1)), "end")

    def test_traps(self):
        code = [("addi", 1, 1, 3), 0]
        self.assertIsNone(self.reason(code, [], ("trap", "illegal", 4)))
        for end in (("trap", "fetch", 4), ("trap", "illegal", 0), ("trap", "load", 4), ("trap", "store", 4), ("exit", 0), ("go", 0)):
            self.assertEqual(self.reason(code, [], end), "end", end)
        self.assertIsNone(self.reason(code[:1], [], ("trap", "fetch", 4), 2))
        self.assertEqual(self.reason(code[:1], [], ("trap", "illegal", 4), 2), "end")
        self.assertEqual(self.reason(code[:1], [], ("trap", "fetch", 4), 1), "end")

    def test_what_is_known_counts_in_events_and_ends(self):
        code = [("lw", 1, 0, 64), ("addi", 2, 1, 1), ("put", 2), ("exit", 1)]
        image = image_of(code, constant_segment(64, bytes_of([9])))
        facts = {0: facts_of(), 4: facts_of(r1=row(9)), 8: facts_of(r1=row(9), r2=row(10)), 12: facts_of(r1=row(9), r2=row(10))}
        table = tuple(facts.items())
        # The entry holds 0 in each register, which facts without anything allow.
        body = [do(("lw", 7, 0, 64), 0), ("li", 2, 10), do(("put", 2), 8), ("li", 1, 9)]
        self.assertIsNone(self.reason(image, body, ("exit", 1), 4, facts=table))
        self.assertEqual(self.reason(image, body, ("exit", 1), 4), "event")
        self.assertEqual(self.reason(image, [*body[:3], ("li", 1, 10)], ("exit", 1), 4, facts=table), "end")
        # It does not count ahead of its time: the load may still trap.
        self.assertEqual(self.reason(image, body[1:3] + body[:1], ("exit", 1), 4, facts=table), "event")

    def test_counts(self):
        code = [("addi", 1, 1, 1), ("put", 1), ("addi", 1, 1, 1), ("addi", 1, 1, 1), ("put", 1), ("exit", 0)]
        line = [do(("addi", 1, 1, 1), 0)]
        first, second, third = ("count", 3), ("count", 5), ("count", 7)
        puts = [[do(("put", 1), 4)], [do(("put", 1), 16)]]
        counters = ((3, 0), (5, 8), (7, 20))

        def reason(ahead, between, behind):
            body = ahead + line + puts[0] + between + line * 2 + puts[1] + behind
            return self.reason(code, body, ("exit", 0), counters=counters)
        self.assertIsNone(reason([first], [second], [third]))
        for wrong in (
            ([], [second], [third]), ([first], [], [third]), ([first], [second], []), ([first, first], [second], [third]),
            ([second], [first], [third]), ([], [first, second], [third]), ([first, second], [], [third]), ([first], [second, third], []),
        ):
            self.assertEqual(reason(*wrong), "count", wrong)

    def test_counts_of_steps_with_events_stand_in_front_of_them(self):
        code = [("put", 1), ("lw", 2, 1, 0), ("lw", 3, 1, 0), ("exit", 0)]
        image = image_of(code)
        lines = [do(("put", 1), 0), do(("lw", 2, 1, 0), 4), do(("lw", 3, 1, 0), 8)]
        counts = [("count", k) for k in range(4)]
        counters = tuple((k, 4 * k) for k in range(4))

        def reason(body):
            return self.reason(image, body, ("exit", 0), 4, counters=counters)
        self.assertIsNone(reason([counts[0], lines[0], counts[1], lines[1], counts[2], lines[2], counts[3]]))
        # The last load is quiet, so its count and that of the exit may stand anywhere behind the event.
        self.assertIsNone(reason([counts[0], lines[0], counts[1], lines[1], lines[2], counts[3], counts[2]]))
        self.assertEqual(reason([lines[0], counts[0], counts[1], lines[1], counts[2], lines[2], counts[3]]), "count")
        self.assertEqual(reason([counts[0], lines[0], lines[1], counts[1], counts[2], lines[2], counts[3]]), "count")

    def test_an_illegal_word_is_counted(self):
        counters = ((0, 4),)
        self.assertIsNone(self.reason([("addi", 1, 1, 1), 0], [("count", 0)], ("trap", "illegal", 4), counters=counters))
        self.assertEqual(self.reason([("addi", 1, 1, 1), 0], [], ("trap", "illegal", 4), counters=counters), "count")


class Through(Case):
    CODE = [("jalr", 15, 1, 4), ("exit", 0), ("exit", 1)]

    def pair(self, end, body=(), same=ALL, table=((4, 1), (8, 2)), kept=ALL, facts=None):
        """Block 0 for the jump, 1 and 2 for the words behind it, 3 for the first word again."""
        blocks = ((0, tuple(body), end), (1, (), ("exit", 0)), (2, (), ("exit", 1)), (3, (), ("through", 1, 4, 15, 4)))
        rows = ((0, 0, same, 1), (1, 4, kept, 1), (2, 8, (1,), 1), (3, 0, ALL, 1))
        image = image_of(self.CODE)
        return image, ((blocks, 3, table), (plain(image) if facts is None else facts, rows, ()))

    def test_any_target(self):
        whole = ((0, 3), (4, 1), (8, 2))
        self.taken(*self.pair(("through", 1, 4, 15, 4), table=whole))
        self.taken(*self.pair(("through", 1, 4, 15, 4), table=((0, 0), *whole[1:])))
        for at in range(3):
            self.refused(*self.pair(("through", 1, 4, 15, 4), table=whole[:at] + whole[at + 1:]), 0, "end")
        for end in (("through", 2, 4, 15, 4), ("through", 1, 8, 15, 4), ("through", 1, 4, 14, 4), ("through", 1, 4, 15, 8), ("go", 1), ("exit", 1)):
            self.refused(*self.pair(end, table=whole), 0, "end")

    def test_the_sum_counts(self):
        body = [do(("addi", 2, 1, 44), 0)]
        whole = ((0, 3), (4, 1), (8, 2))
        self.refused(*self.pair(("through", 2, -40, 15, 4), body, table=whole), 0, "end")
        # Register 2 must agree on block 3, to which the jump leads.
        image, (book, paper) = self.pair(("through", 2, -40, 15, 4), body, table=whole, kept=(1, 15))
        rows = (*paper[1][:3], (3, 0, (1,), 1))
        blocks = (*book[0][:3], (3, *book[0][0][1:]))
        self.taken(image, ((blocks, 3, whole), (paper[0], rows, ())))

    def test_same_behind_the_result(self):
        whole = ((0, 0), (4, 1), (8, 2))
        image, (book, paper) = self.pair(("through", 1, 4, 0, 0), table=whole, kept=(1,))
        rows = ((0, 0, (1,), 1), (1, 4, (1,), 1), (2, 8, (1,), 1), (3, 0, (1,), 1))
        self.taken(image, (book, (paper[0], rows, ())))
        # Where register 15 must agree, the result must be written, by the end or by a line.
        rows = ((0, 0, (1,), 1), (1, 4, (1, 15), 1), (2, 8, (1,), 1), (3, 0, (1,), 1))
        self.refused(image, (book, (paper[0], rows, ())), 0, "end")
        blocks = ((0, (("li", 15, 4),), ("through", 1, 4, 0, 0)), *book[0][1:])
        self.taken(image, ((blocks, *book[1:]), (paper[0], rows, ())))
        blocks = ((0, (("li", 15, 8),), ("through", 1, 4, 0, 0)), *book[0][1:])
        self.refused(image, ((blocks, *book[1:]), (paper[0], rows, ())), 0, "end")

    def test_targets_that_facts_allow(self):
        code = [("get", 1), ("andi", 1, 1, 4), ("jalr", 0, 1, 12), ("exit", 1), ("exit", 0), ("exit", 0)]
        image = image_of(code)
        book, paper = first_book(image)
        self.assertEqual(book[2], ((12, 1), (16, 2)))
        self.taken(image, (book, paper))
        for at in range(2):
            self.refused(image, ((book[0], book[1], book[2][at:at + 1]), paper), 0, "end")
        self.refused(image, ((book[0], book[1], ()), paper), 0, "end")
        # Without facts any place must be there.
        facts = plain(image)
        self.refused(image, (book, (facts, *paper[1:])), 0, "end")

    def test_targets_that_are_no_places_need_no_entry(self):
        image = image_of([("get", 1), ("andi", 1, 1, 4), ("jalr", 0, 1, 12), ("exit", 1)])
        book, paper = first_book(image)
        self.assertEqual(book[2], ((12, 1),))
        self.taken(image, (book, paper))


class Whole(Case):
    """A pair with one thing changed."""

    def setUp(self):
        self.image = CALLS
        self.book, self.paper = first_book(CALLS)

    def test_first_books_are_taken(self):
        for image in FIXED:
            for whole in (False, True):
                self.taken(image, first_book(image, whole=whole))

    def test_row_of(self):
        for found in self.paper[1]:
            self.assertEqual(row_of(self.paper, found[0]), found)
        self.assertIsNone(row_of(self.paper, len(self.paper[1])))
        self.assertIsNone(row_of((self.paper[0], (), ()), 0))

    def with_rows(self, rows):
        return self.book, (self.paper[0], tuple(rows), self.paper[2])

    def test_form_of_the_book(self):
        blocks, entry, table = self.book
        for book in (
            (blocks, 99, table), (blocks, entry, table[::-1]), (blocks[:1] * 2, entry, table), ((), 0, ()), None, (blocks, entry),
            (((0, (), ("go", 99)), *blocks[1:]), entry, table), (((0, (("li", 16, 0),), blocks[0][2]), *blocks[1:]), entry, table),
        ):
            self.refused(self.image, (book, self.paper), -1, "form")

    def test_form_of_rows(self):
        rows = self.paper[1]
        for wrong in (
            rows[1:], rows[:-1], rows[::-1], rows + ((99, 0, (), 1),), rows + rows[-1:], list(rows), None, (None,) * len(rows),
        ):
            self.refused(self.image, (self.book, (self.paper[0], wrong, ())), -1, "form")
        label, address, same, steps = rows[0]
        for wrong in (
            (label, -1, same, steps), (label, 2 ** 32, same, steps), (label, address, (0, 1), steps), (label, address, (1, 16), steps),
            (label, address, (2, 1), steps), (label, address, (1, 1), steps), (label, address, list(same), steps), (label, address, same, -1),
            (label, address, same, 20001), (label, address, same, True), (label, address, same), (label, False, same, steps),
            (False, address, same, steps), (label, address, (True,), steps), (label, address, None, steps), [label, address, same, steps],
        ):
            self.refused(self.image, self.with_rows([wrong, *rows[1:]]), -1, "form")
        self.assertEqual(refusal(self.image, *self.with_rows([(label, address, same, 20000), *rows[1:]])), (0, "way"))

    def test_form_of_counters(self):
        for counters in (
            ((1000, 0),), ((-1, 0),), ((0, 2),), ((0, 4096),), ((0, -4),), ((1, 0), (0, 4)), ((0, 0), (0, 4)), ((0, 0), (1, 0)),
            ((True, 0),), ((0, False),), ((0,),), ([0, 0],), [(0, 0)], None, ((0, 0, 0),), ((0, None),), ((0, 2 ** 40),),
        ):
            self.refused(self.image, (self.book, (*self.paper[:2], counters)), -1, "form")
        # A counter that no line adds to is of the right form; one that is not in the paper is not.
        self.refused(self.image, (self.book, (*self.paper[:2], ((0, 0),))), 0, "count")
        book, paper = count_places(self.image, self.book, self.paper, (0, 4))
        self.taken(self.image, (book, paper))
        self.refused(self.image, (book, (*paper[:2], paper[2][:1])), -1, "form")
        self.refused(self.image, (book, (*paper[:2], ((0, 4), (1, 0)))), 0, "count")

    def test_a_counter_of_code_that_no_way_reaches(self):
        book, paper = first_book(SWITCH)
        image = image_of([("exit", 0), ("exit", 0)])
        book, paper = first_book(image)
        self.taken(image, (book, (*paper[:2], ((9, 4),))))

    def test_facts(self):
        facts, rows, counters = self.paper
        for wrong in (None, (), facts[1:], facts[::-1], list(facts), ((2, facts[0][1]), *facts[1:]), facts[:3] + facts[4:]):
            self.refused(self.image, (self.book, (wrong, rows, counters)), -1, "facts")
        self.taken(self.image, first_book(self.image, whole=True))

    def test_entry(self):
        book = (self.book[0], 1, self.book[2])
        self.refused(self.image, (book, self.paper), -1, "entry")
        rows = [(0, 4, *self.paper[1][0][2:]), *self.paper[1][1:]]
        self.refused(self.image, self.with_rows(rows), -1, "entry")

    def test_table(self):
        blocks, entry, table = self.book
        self.assertGreater(len(table), 1)
        swapped = ((table[0][0], table[1][1]), (table[1][0], table[0][1]))
        self.refused(self.image, ((blocks, entry, swapped), self.paper), -1, "table")
        labels = {row[1]: row[0] for row in self.paper[1]}
        self.taken(self.image, ((blocks, entry, tuple(sorted({*table, (0, labels[0])}))), self.paper))
        # A place that the facts do not know.
        image = image_of([("exit", 0), ("exit", 1)])
        book, paper = first_book(image)
        pair = ((*book[0], (1, (), ("exit", 1))), 0, ((4, 1),)), (paper[0], (*paper[1], (1, 4, ALL, 1)), ())
        self.refused(image, pair, -1, "table")
        self.taken(image, ((pair[0][0], 0, ()), pair[1]))
        self.taken(image, (pair[0], (plain(image), *pair[1][1:])))
        no_place = (((0, (), ("exit", 0)), (1, (), ("trap", "fetch", 2))), 0, ((2, 1),)), (plain(image), ((0, 0, ALL, 1), (1, 2, ALL, 1)), ())
        self.refused(image, no_place, -1, "table")

    def test_each_change_of_a_row(self):
        for label, address, same, steps in self.paper[1]:
            for wrong, reasons in (
                ((label, address, same, steps + 1), ("way", "end", "event")),
                ((label, address, same, steps - 1), ("end", "event")),
                ((label, address + 4 * steps, same, steps), ("end", "event", "way", "entry", "table")),
                ((label, address, (), steps), ("event", "end", None)),
            ):
                rows = [wrong if row[0] == label else row for row in self.paper[1]]
                found = refusal(self.image, *self.with_rows(rows))
                self.assertIn(None if found is None else found[1], reasons)

    def test_the_least_label(self):
        blocks = tuple((label, body, ("trap", "load", 0)) for label, body, end in self.book[0])
        self.refused(self.image, ((blocks[::-1], *self.book[1:]), self.paper), 0, "end")
        blocks = tuple(block if label in (0, 1, 3) else (label, body, ("trap", "load", 0)) for block in self.book[0] for label, body, end in [block])
        self.refused(self.image, ((blocks, *self.book[1:]), self.paper), 2, "end")

    def test_the_first_reason_of_the_whole(self):
        bad_rows = self.paper[1][1:]
        self.refused(self.image, (self.book, ((), bad_rows, ())), -1, "form")
        self.refused(self.image, ((self.book[0], 1, ()), ((), *self.paper[1:])), -1, "facts")
        wrong = ((self.book[2][0][0], 0), *self.book[2][1:])
        self.refused(self.image, ((self.book[0], 1, wrong), self.paper), -1, "entry")
        blocks = tuple((label, body, ("trap", "load", 0)) for label, body, end in self.book[0])
        self.refused(self.image, ((blocks, 0, wrong), self.paper), -1, "table")


class Rings(Case):
    IMAGE = image_of([("put", 1), ("jal", 0, -1)])

    def pair(self, ends, steps):
        """Blocks for the word at 0 that go to each other, behind one for the jump."""
        blocks = [(label, (), ("go", target)) for label, target in enumerate(ends)]
        rows = [(label, 0, ALL, count) for label, count in enumerate(steps)]
        last = len(blocks)
        blocks.append((last, (do(("put", 1), 0),), ("go", 0)))
        rows.append((last, 0, ALL, 2))
        return (tuple(blocks), 0, ()), (plain(self.IMAGE), tuple(rows), ())

    def test_blocks_of_no_steps(self):
        self.taken(self.IMAGE, self.pair([1], [0]))
        self.taken(self.IMAGE, self.pair([1, 2, 3], [0, 0, 0]))
        self.taken(self.IMAGE, self.pair([3, 0, 0], [0, 0, 0]))

    def test_rings(self):
        self.refused(self.IMAGE, self.pair([0], [0]), -1, "ring")
        self.refused(self.IMAGE, self.pair([1, 0], [0, 0]), -1, "ring")
        self.refused(self.IMAGE, self.pair([3, 2, 1], [0, 0, 0]), -1, "ring")
        self.refused(self.IMAGE, self.pair([1, 2, 0], [0, 0, 0]), -1, "ring")
        # A ring that is led to from outside, and one with a step in it.
        self.refused(self.IMAGE, self.pair([1, 2, 1], [0, 0, 0]), -1, "ring")
        self.taken(self.IMAGE, self.pair([1, 2, 3], [0, 0, 0]))

    def test_no_ring_with_a_step(self):
        image = image_of([("jal", 0, 0)])
        book = (((0, (), ("go", 1)), (1, (), ("go", 0))), 0, ())
        for steps, reason in (((0, 0), (-1, "ring")), ((0, 1), None), ((1, 0), None), ((1, 1), None), ((20000, 0), None)):
            rows = tuple((label, 0, (), count) for label, count in enumerate(steps))
            self.assertEqual(refusal(image, book, (plain(image), rows, ())), reason)

    def test_blocks_of_no_steps_may_compute(self):
        image = image_of([("put", 1), ("exit", 1)])
        blocks = ((0, (("li", 9, 5), do(("add", 1, 1, 0), 0)), ("go", 1)), (1, (do(("put", 1), 0),), ("exit", 1)))
        rows = ((0, 0, ALL, 0), (1, 0, (1,), 2))
        pair = ((blocks, 0, ()), (plain(image), rows, ()))
        self.taken(image, pair)
        self.refused(image, (pair[0], (plain(image), (rows[0], (1, 0, (1, 9), 2)), ())), 0, "end")
        blocks = ((0, (do(("put", 1), 0),), ("go", 1)), blocks[1])
        self.refused(image, ((blocks, 0, ()), pair[1]), 0, "event")
        blocks = ((0, (), ("exit", 1)), blocks[1])
        self.refused(image, ((blocks, 0, ()), pair[1]), 0, "end")


def deep(depth):
    found = ()
    for _ in range(depth):
        found = (found,)
    return found


def chance_value(chance, depth=3):
    kind = chance.random()
    if kind < 0.3 or depth == 0:
        return chance.choice((None, True, False, (), []))
    if kind < 0.55:
        return chance.choice((0, 1, 2, -1, 5, 16, 64, 2 ** 31, 2 ** 32, 10 ** 30))
    if kind < 0.7:
        return chance.choice(("go", "if", "do", "li", "add", "words", "", "range", "x", "trap", "fetch", "through"))
    found = [chance_value(chance, depth - 1) for _ in range(chance.randint(0, 4))]
    return tuple(found) if chance.random() < 0.8 else found


def paths(value, ahead=()):
    yield ahead
    if isinstance(value, (tuple, list)):
        for index, item in enumerate(value):
            yield from paths(item, (*ahead, index))


def replaced(value, path, new):
    if not path:
        return new
    items = list(value)
    items[path[0]] = replaced(items[path[0]], path[1:], new)
    return tuple(items) if isinstance(value, tuple) else items


class AnyValues(Case):
    def test_plain_values(self):
        book, paper = first_book(ECHO)
        values = (None, True, False, 0, -1, 10 ** 400, "", "book", (), [], (1, 2, 3), [()], (None,) * 3, deep(60), [deep(59)], (deep(59),) * 3)
        for value in values:
            self.refused(ECHO, (value, paper), -1, "form")
            self.refused(ECHO, (book, value), -1, "form")
            for other in values:
                self.refused(ECHO, (value, other), -1, "form")
            for at in range(3):
                for pair in ((replaced(book, (at,), value), paper), (book, replaced(paper, (at,), value))):
                    found = refusal(ECHO, *pair)
                    self.assertEqual(check(ECHO, *pair), found is None)

    def test_pairs_with_anything_in_the_place_of_something(self):
        for chance, image in chance_images(700, 60):
            script = [(chance.choice(WORDS), -1) for _ in range(chance.randrange(4))]
            pair = rewrite(image, script)
            places = list(paths(pair))
            for _ in range(40):
                changed = replaced(pair, chance.choice(places), chance_value(chance))
                if isinstance(changed, (tuple, list)) and len(changed) == 2:
                    found = refusal(image, *changed)
                    self.assertIn(None if found is None else found[1], (
                        None, "form", "facts", "entry", "table", "way", "event", "end", "count", "ring",
                    ))


class Bounds(Case):
    def test_a_row_of_20000_steps(self):
        image = image_of([("addi", 1, 1, 1), ("jal", 0, -1)])
        body = [("do", ("addi", 1, 1, 8191), 0)] + [("do", ("addi", 1, 1, 1), 0)] * 1809
        book = (((0, tuple(body), ("go", 0)),), 0, ())
        self.taken(image, (book, (plain(image), ((0, 0, ALL, 20000),), ())))
        self.refused(image, ((((0, tuple(body[1:]), ("go", 0)),), 0, ()), (plain(image), ((0, 0, ALL, 20000),), ())), 0, "end")

    def test_20000_blocks(self):
        image = WILD
        blocks = tuple((label, (), ("go", label + 1)) for label in range(19999))
        book, paper = rewrite(image, [("join", 9)])
        rows = tuple((label, image[1], ALL, 0) for label in range(19999))
        moved = {label: label + 19999 for label, _, _ in book[0]}
        last = tuple((moved[label], body, moved_end(end, moved)) for label, body, end in book[0])
        later = tuple((moved[label], *row) for label, *row in paper[1])
        table = tuple((address, moved[label]) for address, label in book[2])
        self.taken(image, ((blocks + last, 0, table), (paper[0], rows + later, ())))
        ring = (*blocks[:-1], (19998, (), ("go", 10000)))
        self.refused(image, ((ring + last, 0, table), (paper[0], rows + later, ())), -1, "ring")


def moved_end(end, moved):
    if end[0] == "go":
        return ("go", moved[end[1]])
    return (*end[:4], moved[end[4]], moved[end[5]]) if end[0] == "if" else end


if __name__ == "__main__":
    unittest.main()
