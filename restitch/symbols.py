"""Terms: what values are made of, numbered in a pool."""

from restitch.codes import plain_op
from restitch.kinds import MASK
from restitch.machine import compute

LEAVES = ("word", "in", "loose", "load", "get")
MOST_TERMS = 12


class Pool:
    """Terms under numbers: equal nodes have one, and the parts of each have lesser ones."""

    def __init__(self):
        self.nodes = []
        self.numbers = {}

    def term(self, node):
        """The number of a node, whose parts are numbers of the pool."""
        number = self.numbers.get(node)
        if number is None:
            number = len(self.nodes)
            self.numbers[node] = number
            self.nodes.append(node)
        return number

    def word(self, w):
        return self.term(("word", w))

    def node(self, t):
        return self.nodes[t]

    def word_of(self, t):
        """The word that a term is, or None if it is no word."""
        node = self.nodes[t]
        return node[1] if node[0] == "word" else None

    def normal(self, op, s, t):
        """The term of an operation on two terms."""
        op = plain_op(op)
        x, y = self.word_of(s), self.word_of(t)
        if x is not None and y is not None:
            return self.word(compute(op, x, y))
        parts = self.parts_of_operation(op, s, t)
        found = None if parts is None else self.total(0, parts)
        if found is not None:
            return found
        rule = RULES.get(op)
        found = None if rule is None else rule(self, op, s, t)
        return self.term((op, s, t)) if found is None else found

    def parts_of_operation(self, op, s, t):
        """An operation as a list of pairs (term, factor) to sum up, or None if it is no sum."""
        if op == "add":
            return [(s, 1), (t, 1)]
        if op == "sub":
            return [(s, 1), (t, MASK)]
        x, y = self.word_of(s), self.word_of(t)
        if op == "mul" and y is not None:
            return [(s, y)]
        if op == "mul" and x is not None:
            return [(t, x)]
        if op == "shl" and y is not None:
            return [(s, 1 << (y & 31))]
        return None

    def total(self, base, parts):
        """The term of the sum of a word and pairs (term, factor); None if it has too many terms."""
        factors = {}
        for part, factor in parts:
            more, pairs = self.linear(part)
            base += more * factor
            for inner, times in pairs:
                factors[inner] = (factors.get(inner, 0) + times * factor) & MASK
        left = tuple([(inner, factors[inner]) for inner in sorted(factors) if factors[inner] != 0])
        return None if len(left) > MOST_TERMS else self.sum_of(base & MASK, left)

    def linear(self, t):
        """A term as a word and pairs (term, factor) to sum up."""
        node = self.nodes[t]
        if node[0] == "word":
            return node[1], ()
        return (node[1], node[2]) if node[0] == "sum" else (0, ((t, 1),))

    def sum_of(self, base, pairs):
        """The term of a word and pairs (term, factor) that are in order."""
        if pairs == ():
            return self.word(base)
        if base == 0 and len(pairs) == 1 and pairs[0][1] == 1:
            return pairs[0][0]
        return self.term(("sum", base, pairs))

    def settled(self, words, t):
        """The term with the terms of a dict replaced by their words, and made normal again."""
        done = {}
        for number in self.inside(t, words):
            new = self.word(words[number]) if number in words else self.made_again(number, done)
            done[number] = self.word(words[new]) if new in words else new
        return done[t]

    def inside(self, t, leaves):
        """A term and the terms that it is made of, ascending; those of a dict are not looked into."""
        found = {t: True}
        waiting = [t]
        while waiting:
            number = waiting.pop()
            if number in leaves:
                continue
            for part in parts_of_node(self.nodes[number]):
                if part not in found:
                    found[part] = True
                    waiting.append(part)
        return sorted(found)

    def made_again(self, number, done):
        """A term with other terms in the place of its parts."""
        node = self.nodes[number]
        if node[0] in LEAVES:
            return number
        if node[0] != "sum":
            return self.normal(node[0], done[node[1]], done[node[2]])
        pairs = [(done[part], factor) for part, factor in node[2]]
        found = self.total(node[1], pairs)
        return self.added_up(node[1], pairs) if found is None else found

    def added_up(self, base, pairs):
        """The sum of too many terms, as an addition of one pair after the other."""
        found = self.word(base)
        for part, factor in pairs:
            found = self.normal("add", found, self.normal("mul", part, self.word(factor)))
        return found

    def value_of(self, t, registers, loads, gets):
        """The word that a term stands for, with these words in the place of its leaves."""
        given = {"in": registers, "loose": registers, "load": loads, "get": gets}
        values = {}
        for number in self.inside(t, {}):
            node = self.nodes[number]
            if node[0] == "word":
                values[number] = node[1]
            elif node[0] in given:
                values[number] = given[node[0]][node[1]]
            elif node[0] == "sum":
                values[number] = (node[1] + sum([factor * values[part] for part, factor in node[2]])) & MASK
            else:
                values[number] = compute(node[0], values[node[1]], values[node[2]])
        return values[t]


def parts_of_node(node):
    """The numbers of the terms that a node is made of."""
    if node[0] in LEAVES:
        return ()
    return [part for part, _ in node[2]] if node[0] == "sum" else node[1:]


def _and(pool, op, s, t):
    s, t = min(s, t), max(s, t)
    words = (pool.word_of(s), pool.word_of(t))
    if s == t or words[1] == MASK:
        return s
    if words[0] == MASK:
        return t
    return pool.word(0) if 0 in words else pool.term((op, s, t))


def _or(pool, op, s, t):
    s, t = min(s, t), max(s, t)
    words = (pool.word_of(s), pool.word_of(t))
    if s == t or words[1] == 0:
        return s
    if words[0] == 0:
        return t
    return pool.word(MASK) if MASK in words else pool.term((op, s, t))


def _xor(pool, op, s, t):
    s, t = min(s, t), max(s, t)
    if s == t:
        return pool.word(0)
    if pool.word_of(t) == 0:
        return s
    return t if pool.word_of(s) == 0 else pool.term((op, s, t))


def _mul(pool, op, s, t):
    return pool.term((op, min(s, t), max(s, t)))


def _shift(pool, op, s, t):
    word = pool.word_of(t)
    if word is None:
        return None
    return s if word & 31 == 0 else pool.term((op, s, pool.word(word & 31)))


def _less(pool, op, s, t):
    return pool.word(0) if s == t else None


def _divu(pool, op, s, t):
    return s if pool.word_of(t) == 1 else None


def _remu(pool, op, s, t):
    return pool.word(0) if pool.word_of(t) == 1 else None


# None from a rule, and no rule: the operation stays as it is.
RULES = {
    "and": _and, "or": _or, "xor": _xor, "mul": _mul, "shl": _shift, "shr": _shift, "sar": _shift,
    "slt": _less, "sltu": _less, "divu": _divu, "remu": _remu,
}
