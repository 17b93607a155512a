"""Places of code, and the ways that lead on from them."""

from restitch.codes import BRANCHES, OPS_OF_IMMEDIATES, decode, writes
from restitch.kinds import MASK
from restitch.memory import can_fetch, can_load, find_segment, first_memory, load_word, word_at
from restitch.values import NOTHING, decided, is_row_fact, join_facts, meet, only_word, result

BYTE = ("range", 0, 255)


def is_place(image, address):
    """True for an address at which code may stand."""
    return can_fetch(image, address)


def places(image):
    """All places of an image, ascending."""
    found = []
    for address, values, _, executable in image[0]:
        if executable:
            found.extend([address + offset for offset in range(0, len(values), 4)])
    return found


def instruction_at(image, address):
    """The instruction at a place, or None if its word is illegal."""
    return decode(word_at(image, address))


def ways(image, address, facts):
    """The targets of the word at a place with the facts there, ascending; None if any may be."""
    instruction = instruction_at(image, address)
    if instruction is None or instruction[0] == "exit":
        return []
    op = instruction[0]
    if op in BRANCHES:
        return _ways_of_branch(address, instruction, facts)
    behind = _with(facts, writes(instruction), _fact_of_result(image, address, instruction, facts))
    if op == "jalr":
        targets = _targets(instruction, facts)
        return None if targets is None else [(target, behind) for target in targets]
    if op == "jal":
        return [((address + 4 * instruction[2]) & MASK, behind)]
    return [((address + 4) & MASK, behind)]


def allowed_targets(image, address, facts):
    """The targets, ascending, of the jalr at a place, or None if any is allowed."""
    return _targets(instruction_at(image, address), facts)


def _targets(instruction, facts):
    _, _, ra, imm = instruction
    if not is_row_fact(facts[ra]):
        return None
    return sorted({(word + imm) & MASK for word in facts[ra][1]})


def _with(facts, number, fact):
    """The facts with the one of a register changed, but not of register 0 (nor of none, -1)."""
    if number < 1:
        return facts
    return (*facts[:number], fact, *facts[number + 1:])


def _fact_of_result(image, address, instruction, facts):
    """The fact of what an instruction writes; None also if it writes nothing."""
    op = instruction[0]
    if writes(instruction) == -1:
        return None
    if op in ("jal", "jalr"):
        return ("words", ((address + 4) & MASK,))
    if op == "lui":
        return ("words", (instruction[2] << 14,))
    if op == "lbu":
        return BYTE
    if op == "lw":
        return _loaded(image, _targets(instruction, facts))
    if op in ("lb", "get"):
        return None
    first = facts[instruction[2]]
    if op in OPS_OF_IMMEDIATES:
        return result(op, first, ("words", (instruction[3] & MASK,)))
    return result(op, first, facts[instruction[3]])


def _loaded(image, addresses):
    """The fact of a word that is loaded from one of these addresses (of any, if None)."""
    if addresses is None:
        return None
    fact = NOTHING
    for address in addresses:
        if not can_load(image, address, 4):
            continue
        if is_writable(image, address):
            return None
        fact = join_facts(fact, ("words", (load_word(image, first_memory(image), address, 4),)))
    return None if fact == NOTHING else fact


def is_writable(image, address):
    """True if the word at an address, which may be loaded, may be stored, too."""
    return image[0][find_segment(image, address, 4)][2]


def _ways_of_branch(address, instruction, facts):
    op, ra, rb, imm = instruction
    known = decided(op, facts[ra], facts[rb])
    found = {}
    for outcome, distance in ((True, 4 * imm), (False, 4)):
        behind = None if known == (not outcome) else _behind_branch(instruction, facts, outcome)
        if behind is not None:
            target = (address + distance) & MASK
            found[target] = joined_facts(found.get(target, behind), behind)
    return [(target, found[target]) for target in sorted(found)]


def joined_facts(old, new):
    """The joins of the facts of all registers."""
    return tuple([a if a == b else join_facts(a, b) for a, b in zip(old, new)])


def _behind_branch(instruction, facts, outcome):
    """The facts where the condition held, or did not; None if a register has no word left."""
    op, ra, rb, _ = instruction
    a, b = _left_by(op, outcome, facts[ra], facts[rb])
    if NOTHING in (a, b):
        return None
    return _with(_with(facts, ra, a), rb, b)


def _left_by(op, outcome, a, b):
    """What a branch op's condition leaves of two facts if it held, or did not."""
    if op in ("beq", "bne"):
        if (op == "beq") == outcome:
            return meet(a, b), meet(a, b)
        return _without(a, b), _without(b, a)
    if op in ("bltu", "bgeu"):
        if (op == "bltu") == outcome:
            return _less_than(a, only_word(b)), _greater_than(b, only_word(a))
        return _at_least(a, only_word(b)), _at_most(b, only_word(a))
    return a, b


def _without(fact, other):
    """A row without the only word of another fact."""
    word = only_word(other)
    if word is None or not is_row_fact(fact):
        return fact
    return ("words", tuple([known for known in fact[1] if known != word]))


def _less_than(fact, word):
    return fact if word is None else _cut(fact, 0, word - 1)


def _greater_than(fact, word):
    return fact if word is None else _cut(fact, word + 1, MASK)


def _at_least(fact, word):
    return fact if word is None else _cut(fact, word, MASK)


def _at_most(fact, word):
    return fact if word is None else _cut(fact, 0, word)


def _cut(fact, low, high):
    return NOTHING if low > high else meet(fact, ("range", low, high))
