"""Facts: what is known of the words that a register may hold."""

from restitch.codes import plain_op
from restitch.kinds import MASK
from restitch.machine import compute, holds

MOST_WORDS = 16
MOST_PAIRS = 64
MOST_ONE_BITS = 4
# The fact of no word at all; no register has it.
NOTHING = ("words", ())
ZERO = ("words", (0,))


def is_row_fact(fact):
    return fact is not None and fact[0] == "words"


def only_word(fact):
    """The only word that a fact allows, or None if it allows others."""
    return fact[1][0] if is_row_fact(fact) and len(fact[1]) == 1 else None


def bounds(fact):
    """The least and the greatest word that a fact allows."""
    if fact is None:
        return 0, MASK
    if fact[0] == "words":
        return fact[1][0], fact[1][-1]
    return fact[1], fact[2]


def span(low, high):
    """The fact of all words from low to high."""
    if low == high:
        return ("words", (low,))
    return None if low == 0 and high == MASK else ("range", low, high)


def allows(fact, w):
    """True if a word is among those of a fact."""
    if fact is None:
        return True
    if fact[0] == "words":
        return w in fact[1]
    return fact[1] <= w <= fact[2]


def within(a, b):
    """True if each word that a allows is allowed by b."""
    if b is None:
        return True
    if is_row_fact(a):
        return all([allows(b, word) for word in a[1]])
    low, high = bounds(a)
    if is_row_fact(b):
        # So many different words are all of the row's, if the row has none beyond.
        return len([word for word in b[1] if low <= word <= high]) == high - low + 1
    return b[1] <= low and high <= b[2]


def meet(a, b):
    """The fact of the words that both facts allow."""
    if is_row_fact(a):
        return ("words", tuple([word for word in a[1] if allows(b, word)]))
    if is_row_fact(b):
        return ("words", tuple([word for word in b[1] if allows(a, word)]))
    low_a, high_a = bounds(a)
    low_b, high_b = bounds(b)
    low, high = max(low_a, low_b), min(high_a, high_b)
    return NOTHING if low > high else span(low, high)


def join_facts(a, b):
    """A fact that allows the words of both facts."""
    if a == NOTHING or b == NOTHING:
        return a if b == NOTHING else b
    if is_row_fact(a) and is_row_fact(b):
        return _fact_of_words(sorted(set(a[1] + b[1])))
    low_a, high_a = bounds(a)
    low_b, high_b = bounds(b)
    return span(min(low_a, low_b), max(high_a, high_b))


def _fact_of_words(words):
    """The fact of a list of words in ascending order."""
    return ("words", tuple(words)) if len(words) <= MOST_WORDS else span(words[0], words[-1])


def result(op, a, b):
    """The fact of the results of an op on two facts."""
    if is_row_fact(a) and is_row_fact(b) and len(a[1]) * len(b[1]) <= MOST_PAIRS:
        return _fact_of_words(sorted({compute(op, x, y) for x in a[1] for y in b[1]}))
    rule = RULES.get(plain_op(op))
    return None if rule is None else rule(a, b)


def _add(a, b):
    low_a, high_a = bounds(a)
    low_b, high_b = bounds(b)
    return span(low_a + low_b, high_a + high_b) if high_a + high_b <= MASK else None


def _sub(a, b):
    low_a, high_a = bounds(a)
    low_b, high_b = bounds(b)
    return span(low_a - high_b, high_a - low_b) if low_a >= high_b else None


def _and(a, b):
    word = only_word(b)
    if word is not None:
        bits = [1 << k for k in range(32) if (word >> k) & 1 == 1]
        if len(bits) <= MOST_ONE_BITS:
            return ("words", tuple(_sums(bits)))
    return span(0, min(bounds(a)[1], bounds(b)[1]))


def _sums(bits):
    """The sums of each choice of some bits in ascending order, in ascending order."""
    found = [0]
    for bit in bits:
        found = found + [word + bit for word in found]
    return found


def _or(a, b):
    high = max(bounds(a)[1], bounds(b)[1])
    return span(0, (1 << high.bit_length()) - 1)


def _shr(a, b):
    word = only_word(b)
    if word is None:
        return None
    low, high = bounds(a)
    return span(low >> (word & 31), high >> (word & 31))


def _shl(a, b):
    word = only_word(b)
    if word is None:
        return None
    low, high = bounds(a)
    return span(low << (word & 31), high << (word & 31)) if high << (word & 31) <= MASK else None


def _divu(a, b):
    word = only_word(b)
    if word is None or word == 0:
        return None
    low, high = bounds(a)
    return span(low // word, high // word)


def _remu(a, b):
    word = only_word(b)
    if word is None or word == 0:
        return None
    low, high = bounds(a)
    return span(low, high) if high < word else span(0, word - 1)


def _less(a, b):
    return ("words", (0, 1))


# What is known of the results where the pairs are too many; of the other ops nothing is.
RULES = {
    "add": _add, "sub": _sub, "and": _and, "or": _or, "xor": _or, "shr": _shr, "shl": _shl,
    "divu": _divu, "remu": _remu, "slt": _less, "sltu": _less,
}


def decided(cond, a, b):
    """True or False if a branch op's condition holds, or fails, for all words; else None."""
    if is_row_fact(a) and is_row_fact(b):
        found = [holds(cond, x, y) for x in a[1] for y in b[1]]
        return found[0] if all([outcome == found[0] for outcome in found]) else None
    if cond not in ("bltu", "bgeu"):
        return None
    low_a, high_a = bounds(a)
    low_b, high_b = bounds(b)
    if high_a < low_b:
        return cond == "bltu"
    return cond == "bgeu" if low_a >= high_b else None
