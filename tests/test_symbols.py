import random
import unittest

from helpers import TOP
from restitch.machine import compute
from restitch.symbols import Pool

THREE = ("add", "sub", "mul", "and", "or", "xor", "shl", "shr", "sar", "slt", "sltu", "divu", "remu")
EDGES = (0, 1, 2, 31, 32, 33, 2 ** 31 - 1, 2 ** 31, TOP)


class Case(unittest.TestCase):
    def setUp(self):
        self.pool = Pool()
        self.a, self.b, self.c = [self.pool.term(("in", number)) for number in (1, 2, 3)]

    def word(self, w):
        return self.pool.word(w)

    def normal(self, op, s, t):
        return self.pool.normal(op, s, t)

    def node(self, op, s, t):
        return self.pool.node(self.normal(op, s, t))

    def is_word(self, t, w):
        self.assertEqual(self.pool.node(t), ("word", w))

    def stays(self, op, s, t):
        self.assertEqual(self.node(op, s, t), (op, s, t))


class Numbers(Case):
    def test_the_first_one_is_0(self):
        pool = Pool()
        self.assertEqual(pool.term(("in", 5)), 0)
        self.assertEqual(pool.word(7), 1)
        self.assertEqual(pool.term(("add", 0, 1)), 2)
        self.assertEqual([pool.node(t) for t in range(3)], [("in", 5), ("word", 7), ("add", 0, 1)])

    def test_equal_nodes_have_one_number(self):
        for node in (("in", 1), ("loose", 1), ("load", 0), ("get", 0), ("word", 1), ("xor", self.a, self.b), ("sum", 3, ((self.a, 2),))):
            first = self.pool.term(node)
            self.assertEqual(self.pool.term(node), first)
            self.assertEqual(self.pool.node(first), node)
        self.assertEqual(self.pool.term(("word", 9)), self.pool.word(9))
        different = [self.pool.term(node) for node in (("in", 4), ("loose", 4), ("load", 4), ("get", 4), ("word", 4))]
        self.assertEqual(len(set(different)), 5)

    def test_two_pools_do_not_share(self):
        other = Pool()
        self.assertEqual(other.word(77), 0)
        self.assertEqual(self.pool.node(0), ("in", 1))

    def test_parts_have_lesser_numbers(self):
        chance = random.Random(1)
        terms = [self.a, self.b, self.c, *map(self.word, EDGES)]
        for _ in range(3000):
            terms.append(self.normal(chance.choice(THREE), chance.choice(terms[-60:]), chance.choice(terms)))
        for t in set(terms):
            node = self.pool.node(t)
            if node[0] == "sum":
                self.assertTrue(all(part < t for part, _ in node[2]))
                self.check_sum(node)
            elif node[0] in THREE:
                self.assertTrue(node[1] < t and node[2] < t)

    def check_sum(self, node):
        _, word, pairs = node
        self.assertTrue(0 <= word <= TOP)
        self.assertTrue(1 <= len(pairs) <= 12)
        self.assertEqual(list(pairs), sorted(set(pairs)))
        self.assertEqual(len({part for part, _ in pairs}), len(pairs))
        self.assertTrue(all(1 <= factor <= TOP for _, factor in pairs))
        self.assertTrue(all(self.pool.node(part)[0] not in ("word", "sum") for part, _ in pairs))
        self.assertFalse(word == 0 and len(pairs) == 1 and pairs[0][1] == 1)


class Words(Case):
    def test_two_words(self):
        for op in THREE:
            for x in EDGES:
                for y in EDGES:
                    self.is_word(self.normal(op, self.word(x), self.word(y)), compute(op, x, y))


class Sums(Case):
    def sum_of(self, *pairs, word=0):
        return ("sum", word, tuple(sorted(pairs)))

    def test_add(self):
        self.assertEqual(self.node("add", self.a, self.b), self.sum_of((self.a, 1), (self.b, 1)))
        self.assertEqual(self.node("add", self.a, self.a), self.sum_of((self.a, 2)))
        for word in (1, TOP):
            self.assertEqual(self.node("add", self.a, self.word(word)), self.sum_of((self.a, 1), word=word))
            self.assertEqual(self.node("add", self.word(word), self.a), self.sum_of((self.a, 1), word=word))
        self.assertEqual(self.normal("add", self.a, self.word(0)), self.a)
        self.assertEqual(self.normal("add", self.word(0), self.a), self.a)

    def test_sub(self):
        self.assertEqual(self.node("sub", self.a, self.b), self.sum_of((self.a, 1), (self.b, TOP)))
        self.is_word(self.normal("sub", self.a, self.a), 0)
        self.assertEqual(self.normal("sub", self.a, self.word(0)), self.a)
        self.assertEqual(self.node("sub", self.a, self.word(1)), self.sum_of((self.a, 1), word=TOP))
        self.assertEqual(self.node("sub", self.word(5), self.a), self.sum_of((self.a, TOP), word=5))
        self.assertEqual(self.node("sub", self.word(0), self.a), self.sum_of((self.a, TOP)))
        self.assertEqual(self.normal("sub", self.word(0), self.normal("sub", self.word(0), self.a)), self.a)

    def test_mul_by_a_word(self):
        for s, t in ((self.a, self.word(3)), (self.word(3), self.a)):
            self.assertEqual(self.node("mul", s, t), self.sum_of((self.a, 3)))
        for s, t in ((self.a, self.word(0)), (self.word(0), self.a)):
            self.is_word(self.normal("mul", s, t), 0)
        self.assertEqual(self.normal("mul", self.a, self.word(1)), self.a)
        self.assertEqual(self.node("mul", self.a, self.word(TOP)), self.sum_of((self.a, TOP)))
        both = self.normal("add", self.normal("add", self.a, self.b), self.word(7))
        self.assertEqual(self.node("mul", both, self.word(3)), self.sum_of((self.a, 3), (self.b, 3), word=21))

    def test_shl_by_a_word(self):
        for word, factor in ((1, 2), (31, 2 ** 31), (33, 2), (TOP, 2 ** 31)):
            self.assertEqual(self.node("shl", self.a, self.word(word)), self.sum_of((self.a, factor)))
        for word in (0, 32, 64):
            self.assertEqual(self.normal("shl", self.a, self.word(word)), self.a)
        self.stays("shl", self.a, self.b)
        self.stays("shl", self.word(3), self.b)
        self.stays("shl", self.word(0), self.b)

    def test_terms_that_vanish(self):
        half = self.normal("mul", self.a, self.word(2 ** 31))
        self.is_word(self.normal("mul", half, self.word(2)), 0)
        self.is_word(self.normal("add", half, half), 0)
        self.is_word(self.normal("shl", half, self.word(1)), 0)
        both = self.normal("add", self.normal("add", half, self.b), self.word(3))
        self.assertEqual(self.node("mul", both, self.word(2)), self.sum_of((self.b, 2), word=6))
        self.is_word(self.normal("sub", self.normal("add", self.a, self.word(9)), self.a), 9)
        self.assertEqual(self.normal("sub", self.normal("add", self.a, self.b), self.b), self.a)

    def test_another_order_is_the_same_sum(self):
        one = self.normal("add", self.normal("add", self.a, self.b), self.c)
        self.assertEqual(self.normal("add", self.normal("add", self.c, self.a), self.b), one)
        self.assertEqual(self.normal("add", self.a, self.normal("add", self.b, self.c)), one)
        self.assertEqual(self.normal("sub", self.normal("add", one, self.word(4)), self.word(4)), one)
        twice = self.normal("mul", one, self.word(2))
        self.assertEqual(self.normal("add", one, one), twice)
        self.assertEqual(self.normal("shl", one, self.word(1)), twice)

    def test_sums_of_other_operations(self):
        product = self.normal("mul", self.a, self.b)
        self.assertEqual(self.node("add", product, product), self.sum_of((product, 2)))
        self.assertEqual(self.node("add", product, self.a), self.sum_of((self.a, 1), (product, 1)))

    def test_twelve_and_thirteen_terms(self):
        leaves = [self.pool.term(("load", k)) for k in range(14)]
        total = leaves[0]
        for leaf in leaves[1:12]:
            total = self.normal("add", total, leaf)
        self.assertEqual(self.pool.node(total), self.sum_of(*[(leaf, 1) for leaf in leaves[:12]]))
        self.stays("add", total, leaves[12])
        self.stays("add", leaves[12], total)
        self.stays("sub", total, leaves[12])
        self.stays("sub", leaves[12], total)
        # A word, a term that is in the sum already, and one that leaves it make no more terms.
        self.assertEqual(self.node("add", total, self.word(5))[0], "sum")
        self.assertEqual(self.node("add", total, leaves[3])[0], "sum")
        self.assertEqual(len(self.node("sub", total, leaves[3])[2]), 11)
        self.assertEqual(self.normal("add", self.normal("sub", total, leaves[3]), leaves[3]), total)
        swapped = self.normal("sub", self.normal("add", self.normal("sub", total, leaves[3]), leaves[12]), leaves[12])
        self.assertEqual(self.normal("add", swapped, leaves[3]), total)
        # What stayed is one term of another sum.
        many = self.normal("add", total, leaves[12])
        self.assertEqual(self.node("add", many, leaves[13]), self.sum_of((leaves[13], 1), (many, 1)))
        for op, factor in (("mul", 3), ("shl", 1)):
            self.assertEqual(len(self.node(op, total, self.word(factor))[2]), 12)

    def test_two_sums_of_thirteen_terms_together(self):
        leaves = [self.pool.term(("get", k)) for k in range(13)]
        one, other = leaves[0], leaves[6]
        for leaf in leaves[1:6]:
            one = self.normal("add", one, leaf)
        for leaf in leaves[7:]:
            other = self.normal("add", other, leaf)
        self.stays("add", one, other)
        self.stays("sub", one, other)
        self.assertEqual(len(self.node("add", one, self.normal("sub", other, leaves[12]))[2]), 12)


class Rules(Case):
    def test_the_lesser_number_first(self):
        for op in ("and", "or", "xor", "mul"):
            self.assertEqual(self.node(op, self.a, self.b), (op, self.a, self.b))
            self.assertEqual(self.node(op, self.b, self.a), (op, self.a, self.b))
        for op in ("and", "or", "xor"):
            word = self.word(5)
            self.assertEqual(self.node(op, word, self.a), (op, self.a, word))
            later = self.pool.term(("in", 9))
            self.assertEqual(self.node(op, later, word), (op, word, later))

    def test_and(self):
        self.assertEqual(self.normal("and", self.a, self.a), self.a)
        for word in (0, TOP):
            for s, t in ((self.a, self.word(word)), (self.word(word), self.a)):
                found = self.normal("and", s, t)
                self.assertEqual(found, self.a if word else self.word(0))
        self.stays("and", self.a, self.word(1))

    def test_or(self):
        self.assertEqual(self.normal("or", self.a, self.a), self.a)
        for word in (0, TOP):
            for s, t in ((self.a, self.word(word)), (self.word(word), self.a)):
                found = self.normal("or", s, t)
                self.assertEqual(found, self.word(TOP) if word else self.a)
        self.stays("or", self.a, self.word(1))

    def test_xor(self):
        self.is_word(self.normal("xor", self.a, self.a), 0)
        for s, t in ((self.a, self.word(0)), (self.word(0), self.a)):
            self.assertEqual(self.normal("xor", s, t), self.a)
        self.stays("xor", self.a, self.word(1))
        self.stays("xor", self.a, self.word(TOP))

    def test_words_of_lesser_and_greater_numbers(self):
        # The words were there first, so that they are the first parts.
        pool = Pool()
        none, all_bits, one = pool.word(0), pool.word(TOP), pool.word(1)
        leaf = pool.term(("in", 1))
        self.assertEqual(pool.normal("and", leaf, none), none)
        self.assertEqual(pool.normal("and", leaf, all_bits), leaf)
        self.assertEqual(pool.normal("or", leaf, none), leaf)
        self.assertEqual(pool.normal("or", leaf, all_bits), all_bits)
        self.assertEqual(pool.normal("xor", leaf, none), leaf)
        self.assertEqual(pool.node(pool.normal("and", leaf, one)), ("and", one, leaf))

    def test_shifts(self):
        for op in ("shr", "sar"):
            for word in (0, 32, 64, 2 ** 31):
                self.assertEqual(self.normal(op, self.a, self.word(word)), self.a)
            for word in (1, 31):
                self.assertEqual(self.node(op, self.a, self.word(word)), (op, self.a, self.word(word)))
                self.assertEqual(self.node(op, self.a, self.word(word + 32)), (op, self.a, self.word(word)))
            self.assertEqual(self.node(op, self.a, self.word(TOP)), (op, self.a, self.word(31)))
            self.stays(op, self.a, self.b)
            self.stays(op, self.a, self.a)
            self.stays(op, self.word(0), self.a)
            self.stays(op, self.word(TOP), self.a)

    def test_comparisons(self):
        for op in ("slt", "sltu"):
            self.is_word(self.normal(op, self.a, self.a), 0)
            for s, t in ((self.a, self.b), (self.b, self.a), (self.a, self.word(0)), (self.word(0), self.a), (self.word(TOP), self.a)):
                self.stays(op, s, t)

    def test_divu_and_remu(self):
        self.assertEqual(self.normal("divu", self.a, self.word(1)), self.a)
        self.is_word(self.normal("remu", self.a, self.word(1)), 0)
        for op in ("divu", "remu"):
            for s, t in (
                (self.a, self.b), (self.a, self.a), (self.a, self.word(0)), (self.a, self.word(TOP)), (self.word(0), self.a),
                (self.word(1), self.a), (self.word(TOP), self.a),
            ):
                self.stays(op, s, t)

    def test_mul_of_terms(self):
        self.stays("mul", self.a, self.a)
        one = self.normal("add", self.a, self.word(1))
        self.assertEqual(self.node("mul", one, self.b), ("mul", self.b, one))


class Values(Case):
    def setUp(self):
        super().setUp()
        self.chance = random.Random(9)
        self.registers = [0, *[self.chance.choice((*EDGES, self.chance.randrange(2 ** 32))) for _ in range(15)]]
        self.loads = [self.chance.randrange(2 ** 32) for _ in range(8)]
        self.gets = [TOP, 7, 255]

    def value(self, t):
        return self.pool.value_of(t, self.registers, self.loads, self.gets)

    def leaves(self):
        found = [(self.pool.term(("in", k)), self.registers[k]) for k in range(16)]
        found += [(self.pool.term(("loose", k)), self.registers[k]) for k in (3, 7)]
        found += [(self.pool.term(("load", k)), self.loads[k]) for k in range(8)]
        found += [(self.pool.term(("get", k)), self.gets[k]) for k in range(3)]
        return found + [(self.word(word), word) for word in EDGES]

    def test_leaves(self):
        for t, word in self.leaves():
            self.assertEqual(self.value(t), word)

    def test_the_machine_s_results(self):
        terms = self.leaves()
        for _ in range(6000):
            op = self.chance.choice(THREE)
            (s, x), (t, y) = self.chance.choice(terms[-80:]), self.chance.choice(terms)
            terms.append((self.normal(op, s, t), compute(op, x, y)))
        for t, word in terms:
            self.assertEqual(self.value(t), word)

    def test_terms_that_are_not_normal(self):
        for op in THREE:
            t = self.pool.term((op, self.a, self.b))
            self.assertEqual(self.value(t), compute(op, self.registers[1], self.registers[2]))
        t = self.pool.term(("sum", 5, ((self.a, 3), (self.b, TOP))))
        self.assertEqual(self.value(t), (5 + 3 * self.registers[1] - self.registers[2]) % 2 ** 32)

    def test_equal_terms_have_equal_values(self):
        found = {}
        terms = [(self.a, 1), (self.b, 2), (self.word(1), None), (self.word(0), None)]
        terms = [(t, self.value(t)) for t, _ in terms]
        for _ in range(4000):
            op = self.chance.choice(("add", "sub", "and", "or", "xor", "mul", "shl", "slt"))
            (s, x), (t, y) = self.chance.choice(terms[-20:]), self.chance.choice(terms)
            new = (self.normal(op, s, t), compute(op, x, y))
            self.assertEqual(found.setdefault(*new), new[1])
            terms.append(new)

    def test_a_deep_term(self):
        t = self.a
        for k in range(20000):
            t = self.normal("xor", self.normal("shr", t, self.word(1)), self.b)
        word = self.registers[1]
        for k in range(20000):
            word = (word >> 1) ^ self.registers[2]
        self.assertEqual(self.value(t), word)
        self.is_word(self.pool.settled({self.a: self.registers[1], self.b: self.registers[2]}, t), word)

    def test_arguments_stay_as_they_were(self):
        kept = (list(self.registers), list(self.loads), list(self.gets))
        words = {self.a: 1}
        t = self.normal("add", self.a, self.b)
        self.value(t)
        self.pool.settled(words, t)
        self.assertEqual((self.registers, self.loads, self.gets), kept)
        self.assertEqual(words, {self.a: 1})


class Settled(Case):
    def random_terms(self, chance, many):
        terms = [self.a, self.b, self.c, self.pool.term(("load", 0)), self.pool.term(("get", 0)), self.pool.term(("loose", 4))]
        terms += [self.word(word) for word in (0, 1, 5, TOP)]
        for _ in range(many):
            terms.append(self.normal(chance.choice(THREE), chance.choice(terms[-30:]), chance.choice(terms)))
        return terms

    def test_no_words(self):
        for t in self.random_terms(random.Random(1), 200):
            self.assertEqual(self.pool.settled({}, t), t)
            self.assertEqual(self.pool.settled({self.pool.term(("in", 14)): 5}, t), t)

    def test_words_for_all_leaves(self):
        chance = random.Random(2)
        terms = self.random_terms(chance, 200)
        registers = [0, 9, TOP, 2 ** 31, 6, *[0] * 11]
        words = {terms[0]: 9, terms[1]: TOP, terms[2]: 2 ** 31, terms[3]: 77, terms[4]: 200, terms[5]: 6}
        for t in terms:
            self.is_word(self.pool.settled(words, t), self.pool.value_of(t, registers, [77], [200]))

    def test_words_for_some_leaves(self):
        chance = random.Random(3)
        terms = self.random_terms(chance, 200)
        for _ in range(6):
            registers = [0, *[chance.choice((0, 1, 3, TOP, 2 ** 31)) for _ in range(15)]]
            loads, gets = [chance.randrange(2 ** 32)], [chance.randrange(256)]
            some = chance.sample(terms[:6], 3)
            words = {t: self.pool.value_of(t, registers, loads, gets) for t in some}
            for t in terms:
                found = self.pool.settled(words, t)
                self.assertEqual(
                    self.pool.value_of(found, registers, loads, gets), self.pool.value_of(t, registers, loads, gets),
                )
                for part in self.parts(found):
                    self.assertNotIn(part, some)

    def parts(self, t):
        node = self.pool.node(t)
        found = {t}
        inner = [part for part, _ in node[2]] if node[0] == "sum" else node[1:] if node[0] in THREE else []
        for part in inner:
            found |= self.parts(part)
        return found

    def test_each_operation_is_made_normal_again(self):
        for op in THREE:
            t = self.normal(op, self.a, self.b)
            for x in EDGES:
                self.assertEqual(self.pool.settled({self.a: x}, t), self.normal(op, self.word(x), self.b), (op, x))
                self.assertEqual(self.pool.settled({self.b: x}, t), self.normal(op, self.a, self.word(x)), (op, x))
                self.is_word(self.pool.settled({self.a: x, self.b: 3}, t), compute(op, x, 3))

    def test_terms_that_are_made_of_others(self):
        inner = self.normal("mul", self.a, self.b)
        outer = self.normal("xor", inner, self.c)
        self.assertEqual(self.pool.settled({inner: 0}, outer), self.c)
        self.is_word(self.pool.settled({outer: 8}, outer), 8)
        self.is_word(self.pool.settled({self.a: 2, outer: 8}, outer), 8)
        # What is known of a settled term shows behind the settling of its parts.
        half = self.normal("add", self.normal("mul", self.b, self.word(2)), self.word(1))
        t = self.normal("add", inner, self.word(1))
        self.is_word(self.pool.settled({self.a: 2, half: 40}, t), 40)

    def test_sums(self):
        t = self.normal("add", self.normal("mul", self.a, self.word(3)), self.normal("sub", self.b, self.word(4)))
        self.assertEqual(self.pool.settled({self.a: 5}, t), self.normal("add", self.b, self.word(11)))
        self.assertEqual(self.pool.settled({self.b: 4}, t), self.normal("mul", self.a, self.word(3)))
        self.is_word(self.pool.settled({self.a: TOP, self.b: 0}, t), (-7) % 2 ** 32)

    def test_sums_that_get_too_many_terms(self):
        leaves = [self.pool.term(("load", k)) for k in range(24)]
        ten, other = leaves[0], leaves[10]
        for leaf in leaves[1:10]:
            ten = self.normal("add", ten, leaf)
        for leaf in leaves[11:20]:
            other = self.normal("add", other, leaf)
        products = self.normal("mul", ten, self.a), self.normal("mul", other, self.b)
        t = self.normal("add", self.normal("add", *products), self.word(6))
        found = self.pool.settled({self.a: 3, self.b: 5}, t)
        loads = list(range(100, 124))
        registers = [0, 3, 5, *[0] * 13]
        self.assertEqual(self.pool.value_of(found, registers, loads, []), self.pool.value_of(t, registers, loads, []))

    def test_terms_that_are_not_normal(self):
        t = self.pool.term(("add", self.b, self.a))
        self.assertEqual(self.pool.settled({}, t), self.normal("add", self.a, self.b))


if __name__ == "__main__":
    unittest.main()
