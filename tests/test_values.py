import random
import unittest

from helpers import TOP, row, span
from restitch.machine import compute, holds
from restitch.values import allows, decided, join_facts, meet, result, within

ROWS = (
    row(0), row(5), row(TOP), row(0, 1), row(5, 6, 7), row(3, 5, 900), row(2 ** 31 - 1, 2 ** 31), row(0, TOP),
    row(*range(16)), row(*range(100, 1600, 100), TOP),
)
RANGES = (
    span(0, 1), span(5, 7), span(0, 15), span(1, TOP), span(0, TOP - 1), span(0, TOP), span(2 ** 31 - 1, 2 ** 31),
    span(6, 900), span(TOP - 1, TOP),
)
FACTS = (*ROWS, *RANGES, None)
WORDS = sorted({
    word % 2 ** 32 for fact in FACTS if fact for bound in (fact[1] if fact[0] == "words" else fact[1:])
    for word in (bound - 1, bound, bound + 1)
})
THREE = ("add", "sub", "mul", "and", "or", "xor", "shl", "shr", "sar", "slt", "sltu", "divu", "remu")
IMMEDIATE = {
    "addi": "add", "andi": "and", "ori": "or", "xori": "xor", "shli": "shl", "shri": "shr",
    "sari": "sar", "slti": "slt",
}


def bounds(fact):
    if fact is None:
        return 0, TOP
    return (fact[1][0], fact[1][-1]) if fact[0] == "words" else fact[1:]


def size(fact):
    if fact is not None and fact[0] == "words":
        return len(fact[1])
    low, high = bounds(fact)
    return high - low + 1


class Allows(unittest.TestCase):
    def test_rows_ranges_and_none(self):
        self.assertEqual([word for word in range(10) if allows(row(3, 5, 9), word)], [3, 5, 9])
        self.assertEqual([word for word in range(10) if allows(span(3, 5), word)], [3, 4, 5])
        for word in (0, 1, TOP):
            self.assertTrue(allows(None, word))
            self.assertTrue(allows(span(0, TOP), word))
        self.assertFalse(allows(span(0, TOP - 1), TOP))
        self.assertFalse(allows(span(1, TOP), 0))
        self.assertIs(allows(None, 0), True)
        self.assertIs(allows(row(1), 1), True)
        self.assertIs(allows(span(1, 2), 3), False)


class Within(unittest.TestCase):
    def test_all_pairs(self):
        for a in FACTS:
            for b in FACTS:
                # If all bounds and their neighbours are covered, all words between are: unless b is a
                # row, which only covers as many words as it has.
                wanted = all(allows(b, word) for word in WORDS if allows(a, word))
                if b is not None and b[0] == "words":
                    wanted = wanted and size(a) <= 16
                self.assertIs(within(a, b), wanted, (a, b))

    def test_some_pairs(self):
        self.assertTrue(within(span(5, 7), row(5, 6, 7)))
        self.assertTrue(within(span(5, 6), row(1, 5, 6, 8)))
        self.assertFalse(within(span(5, 7), row(5, 7)))
        self.assertTrue(within(span(0, 15), row(*range(16))))
        self.assertFalse(within(span(0, 16), row(*range(16))))
        self.assertTrue(within(None, span(0, TOP)))
        self.assertFalse(within(None, span(0, TOP - 1)))
        self.assertFalse(within(None, row(*range(16))))
        self.assertTrue(within(span(0, TOP), None))


class Meet(unittest.TestCase):
    def test_all_pairs(self):
        for a in FACTS:
            for b in FACTS:
                found = meet(a, b)
                for word in WORDS:
                    self.assertEqual(allows(found, word), allows(a, word) and allows(b, word), (a, b, word))
                self.check_form(a, b, found)

    def check_form(self, a, b, found):
        if "words" in ((a or " ")[0], (b or " ")[0]):
            self.assertEqual(found[0], "words")
            self.assertEqual(found[1], tuple(sorted(found[1])))
        elif found is not None and found[0] == "range":
            self.assertLess(found[1], found[2])
            self.assertNotEqual(found, span(0, TOP))

    def test_some_pairs(self):
        cases = (
            (row(1, 2, 3), row(2, 3, 4), row(2, 3)), (row(1, 2), span(2, 9), row(2)), (span(2, 9), row(1, 2), row(2)),
            (row(1, 2), None, row(1, 2)), (None, row(1, 2), row(1, 2)), (row(1), row(2), row()),
            (row(1), span(2, 3), row()), (span(1, 5), span(5, 9), row(5)), (span(1, 5), span(4, 9), span(4, 5)),
            (span(1, 4), span(5, 9), row()), (None, None, None), (span(1, 5), None, span(1, 5)),
            (span(0, TOP), None, None), (span(0, TOP), span(0, TOP), None), (span(0, 5), span(5, TOP), row(5)),
        )
        for a, b, wanted in cases:
            self.assertEqual(meet(a, b), wanted, (a, b))


class Join(unittest.TestCase):
    def test_all_pairs(self):
        for a in FACTS:
            for b in FACTS:
                found = join_facts(a, b)
                for word in WORDS:
                    if allows(a, word) or allows(b, word):
                        self.assertTrue(allows(found, word), (a, b, word))
                both_rows = a is not None and b is not None and a[0] == b[0] == "words"
                if both_rows and len({*a[1], *b[1]}) <= 16:
                    self.assertEqual(found, row(*sorted({*a[1], *b[1]})))
                    continue
                low, high = (choose(x, y) for choose, x, y in zip((min, max), bounds(a), bounds(b)))
                self.assertEqual(found, None if (low, high) == (0, TOP) else span(low, high), (a, b))

    def test_sixteen_and_seventeen_words(self):
        self.assertEqual(join_facts(row(*range(8)), row(*range(8, 16))), row(*range(16)))
        self.assertEqual(join_facts(row(*range(8)), row(*range(9, 18))), span(0, 17))
        self.assertEqual(join_facts(row(*range(16)), row(*range(16))), row(*range(16)))
        self.assertEqual(join_facts(row(*range(16)), row(16)), span(0, 16))
        self.assertEqual(join_facts(row(*range(15)), row(TOP)), row(*range(15), TOP))
        self.assertIsNone(join_facts(row(*range(16)), row(TOP)))

    def test_no_word_at_all(self):
        for fact in FACTS:
            self.assertEqual(join_facts(row(), fact), fact)
            self.assertEqual(join_facts(fact, row()), fact)
        self.assertEqual(join_facts(row(), row()), row())

    def test_some_pairs(self):
        cases = (
            (row(1, 3), row(2, 3), row(1, 2, 3)), (row(9), span(1, 3), span(1, 9)), (span(1, 3), row(2), span(1, 3)),
            (span(1, 3), span(7, 9), span(1, 9)), (None, row(1), None), (span(1, 2), None, None), (None, None, None),
            (span(0, 5), span(6, TOP), None), (row(0), span(1, TOP), None), (row(0), span(1, TOP - 1), span(0, TOP - 1)),
        )
        for a, b, wanted in cases:
            self.assertEqual(join_facts(a, b), wanted, (a, b))


class Results(unittest.TestCase):
    def check(self, op, cases):
        for a, b, wanted in cases:
            self.assertEqual(result(op, a, b), wanted, (op, a, b))

    def test_rows_of_at_most_64_pairs(self):
        few = (row(0), row(1, 7), row(TOP), row(2 ** 31 - 1, 2 ** 31), row(0, 1, 31, 32), row(*range(4)))
        for op in THREE:
            for a in few:
                for b in few:
                    words = sorted({compute(op, x, y) for x in a[1] for y in b[1]})
                    self.assertEqual(result(op, a, b), row(*words), (op, a, b))

    def test_rows_whose_results_are_too_many(self):
        a, b = row(*range(0, 800, 100)), row(*range(8))
        self.assertEqual(result("add", a, b), span(0, 707))
        # From 0 - 0 to 0 - 1.
        self.assertIsNone(result("sub", a, b))
        self.assertEqual(result("sub", row(*range(100, 900, 100)), b), span(93, 800))
        self.assertEqual(result("mul", a, b), span(0, 4900))
        self.assertEqual(result("and", row(*range(16)), row(*range(4))), row(0, 1, 2, 3))
        self.assertEqual(result("mul", row(*range(16)), row(1, 2, 3, 4)), span(0, 60))

    def test_rows_of_more_than_64_pairs_go_by_their_bounds(self):
        a, b = row(*range(16)), row(*range(5))
        self.check("add", [(a, b, span(0, 19)), (b, a, span(0, 19))])
        self.check("mul", [(a, b, None), (row(*range(13)), b, None), (a, row(*range(4)), span(0, 45))])
        self.check("and", [(a, b, span(0, 4))])
        self.check("slt", [(a, b, row(0, 1))])
        self.check("sub", [(row(*range(20, 36)), b, span(16, 35)), (a, b, None)])

    def test_add(self):
        self.check("add", [
            (span(1, 5), row(10), span(11, 15)), (row(10, 20), span(1, 5), span(11, 25)),
            (span(1, 5), span(2, 3), span(3, 8)), (span(0, TOP - 1), row(1), span(1, TOP)),
            (span(0, TOP - 1), row(2), None), (span(1, TOP), row(0), span(1, TOP)), (None, row(0), None),
            (None, row(1), None), (None, None, None), (span(0, 2 ** 31), span(0, 2 ** 31 - 1), None),
            (span(1, 2 ** 31), span(0, 2 ** 31 - 1), span(1, TOP)), (span(0, 2 ** 31), span(0, 2 ** 31), None),
        ])

    def test_sub(self):
        self.check("sub", [
            (span(5, 9), row(5), span(0, 4)), (span(5, 9), row(6), None), (span(5, 9), span(2, 5), span(0, 7)),
            (span(5, 9), span(2, 6), None), (row(9), span(2, 3), span(6, 7)), (None, row(0), None),
            (row(TOP), None, None), (None, row(1), None), (row(TOP), span(0, TOP - 1), span(1, TOP)),
        ])

    def test_and(self):
        self.check("and", [
            (None, row(0), row(0)), (None, row(4), row(0, 4)), (None, row(5), row(0, 1, 4, 5)),
            (None, row(0x80000001), row(0, 1, 0x80000000, 0x80000001)), (None, row(31), span(0, 31)),
            (None, row(15), row(*range(16))), (span(0, 2), row(15), row(*range(16))), (span(0, 20), row(31), span(0, 20)),
            (span(0, 40), row(31), span(0, 31)), (row(4), None, span(0, 4)), (row(5), span(0, 9), span(0, 5)),
            (span(0, 7), span(0, 9), span(0, 7)), (None, span(3, 9), span(0, 9)), (None, None, None),
            (row(0), None, row(0)), (None, row(4, 8), span(0, 8)),
        ])

    def test_or_and_xor(self):
        for op in ("or", "xor"):
            self.check(op, [
                (span(0, 1), row(0), span(0, 1)), (span(0, 5), row(1), span(0, 7)), (span(0, 7), row(8), span(0, 15)),
                (span(3, 4), span(1, 2), span(0, 7)), (None, row(0), None), (row(0), None, None),
                (span(0, 2 ** 31 - 1), row(0), span(0, 2 ** 31 - 1)), (span(0, 2 ** 31), row(0), None),
                (row(16), span(0, 3), span(0, 31)), (span(0, 255), span(0, 256), span(0, 511)),
            ])

    def test_shr(self):
        self.check("shr", [
            (None, row(1), span(0, 2 ** 31 - 1)), (None, row(0), None), (None, row(32), None), (None, row(31), span(0, 1)),
            (None, row(63), span(0, 1)), (span(8, 15), row(3), row(1)), (span(8, 16), row(3), span(1, 2)),
            (span(8, 16), row(35), span(1, 2)), (span(8, 16), row(1, 2), None), (row(8), span(1, 2), None),
        ])

    def test_shl(self):
        self.check("shl", [
            (span(1, 3), row(2), span(4, 12)), (span(1, 3), row(34), span(4, 12)), (span(0, 2 ** 31 - 1), row(1), span(0, TOP - 1)),
            (span(0, 2 ** 31), row(1), None), (None, row(0), None), (None, row(1), None), (span(1, 3), row(0), span(1, 3)),
            (span(1, 3), row(1, 2), None), (span(0, 1), row(31), span(0, 2 ** 31)), (span(1, 2), row(31), None),
            (span(1, TOP), row(0), span(1, TOP)), (span(1, TOP), row(32), span(1, TOP)), (span(3, 5), row(1), span(6, 10)),
            (span(1, 2), row(30), span(2 ** 30, 2 ** 31)), (span(2, 3), row(30), span(2 ** 31, 3 * 2 ** 30)), (span(3, 4), row(30), None),
        ])

    def test_divu(self):
        self.check("divu", [
            (None, row(1), None), (None, row(2), span(0, 2 ** 31 - 1)), (None, row(0), None), (span(8, 11), row(4), row(2)),
            (span(8, 12), row(4), span(2, 3)), (None, row(TOP), span(0, 1)), (span(8, 12), row(1, 2), None),
            (span(8, 12), span(1, 2), None), (row(5), None, None),
        ])

    def test_remu(self):
        self.check("remu", [
            (None, row(1), row(0)), (None, row(2), span(0, 1)), (None, row(0), None), (span(3, 4), row(5), span(3, 4)),
            (span(3, 5), row(5), span(0, 4)), (span(3, 4), row(4), span(0, 3)), (None, row(TOP), span(0, TOP - 1)),
            (span(3, 4), row(5, 6), None), (row(3), None, None), (span(0, TOP - 1), row(TOP), span(0, TOP - 1)),
        ])

    def test_comparisons(self):
        for op in ("slt", "sltu"):
            self.check(op, [(None, None, row(0, 1)), (span(1, 2), row(7), row(0, 1)), (row(0), None, row(0, 1))])
            self.check(op, [(row(1), row(2), row(1)), (row(2), row(1, 2), row(0))])

    def test_ops_of_which_nothing_is_known(self):
        for op in ("mul", "sar"):
            self.check(op, [(None, None, None), (span(1, 2), row(1), None), (row(1), span(1, 2), None)])

    def test_ops_with_an_immediate(self):
        for op, like in IMMEDIATE.items():
            for a in FACTS:
                for b in (row(0), row(1), row(4), row(31), row(TOP)):
                    self.assertEqual(result(op, a, b), result(like, a, b))

    def test_each_result_is_allowed(self):
        chance = random.Random(7)
        for op in THREE:
            for a in FACTS:
                for b in FACTS:
                    found = result(op, a, b)
                    for _ in range(12):
                        x = self.choice(chance, a)
                        y = self.choice(chance, b)
                        self.assertTrue(allows(found, compute(op, x, y)), (op, a, b, x, y))

    def choice(self, chance, fact):
        if fact is not None and fact[0] == "words":
            return chance.choice(fact[1])
        low, high = bounds(fact)
        return chance.choice((low, high, chance.randint(low, high), min(high, low + chance.randint(0, 40))))

    def test_no_result_is_a_degenerate_range(self):
        for op in THREE:
            for a in FACTS:
                for b in FACTS:
                    found = result(op, a, b)
                    if found is not None and found[0] == "range":
                        self.assertLess(found[1], found[2])
                        self.assertNotEqual(found, span(0, TOP))
                    if found is not None and found[0] == "words":
                        self.assertTrue(1 <= len(found[1]) <= 16)
                        self.assertEqual(list(found[1]), sorted(set(found[1])))


class Decided(unittest.TestCase):
    def test_rows(self):
        for cond in ("beq", "bne", "blt", "bge", "bltu", "bgeu"):
            for a in ROWS:
                for b in ROWS:
                    found = {holds(cond, x, y) for x in a[1] for y in b[1]}
                    self.assertIs(decided(cond, a, b), found.pop() if len(found) == 1 else None, (cond, a, b))

    def test_sixteen_words_on_both_sides(self):
        low, high = row(*range(16)), row(*range(16, 32))
        self.assertIs(decided("blt", low, high), True)
        self.assertIs(decided("bge", low, high), False)
        self.assertIs(decided("beq", low, high), False)
        self.assertIs(decided("bne", low, high), True)
        self.assertIsNone(decided("bltu", low, low))

    def test_bounds(self):
        cases = (
            (span(1, 4), span(5, 9), True), (span(1, 5), span(5, 9), None), (span(5, 9), span(1, 5), False),
            (span(5, 9), span(1, 6), None), (row(4), span(5, 9), True), (row(9), span(5, 9), False),
            (row(8), span(5, 9), None), (None, row(0), False), (row(TOP), None, False), (None, row(1), None),
            (row(0), None, None), (None, None, None), (row(0), span(1, TOP), True), (span(0, TOP - 1), row(TOP), True),
        )
        for a, b, wanted in cases:
            self.assertIs(decided("bltu", a, b), wanted, (a, b))
            self.assertIs(decided("bgeu", a, b), None if wanted is None else not wanted, (a, b))

    def test_bounds_decide_no_other_branch(self):
        for cond in ("beq", "bne", "blt", "bge"):
            for a, b in ((span(1, 4), span(5, 9)), (span(5, 9), span(1, 4)), (row(4), span(5, 9)), (None, row(0))):
                self.assertIsNone(decided(cond, a, b))


if __name__ == "__main__":
    unittest.main()
