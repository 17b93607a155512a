"""Instructions and their words."""

from restitch.kinds import is_number

OPS = (
    "add", "sub", "mul", "and", "or", "xor", "shl", "shr", "sar", "slt", "sltu", "divu", "remu",
    "addi", "andi", "ori", "xori", "shli", "shri", "sari", "slti",
    "lui",
    "lw", "lb", "lbu",
    "sw", "sb",
    "beq", "bne", "blt", "bge", "bltu", "bgeu",
    "jal", "jalr",
    "get", "put", "exit",
)

# The operands of each op in the order of the tuple: d is a register that is written, s one that
# is read, i an immediate of 14 bits, j one of 18 bits (both with a sign), u one of 18 bits without.
FORMS = {
    "add": "dss", "sub": "dss", "mul": "dss", "and": "dss", "or": "dss", "xor": "dss",
    "shl": "dss", "shr": "dss", "sar": "dss", "slt": "dss", "sltu": "dss", "divu": "dss",
    "remu": "dss",
    "addi": "dsi", "andi": "dsi", "ori": "dsi", "xori": "dsi", "shli": "dsi", "shri": "dsi",
    "sari": "dsi", "slti": "dsi",
    "lui": "du",
    "lw": "dsi", "lb": "dsi", "lbu": "dsi",
    "sw": "ssi", "sb": "ssi",
    "beq": "ssi", "bne": "ssi", "blt": "ssi", "bge": "ssi", "bltu": "ssi", "bgeu": "ssi",
    "jal": "dj", "jalr": "dsi",
    "get": "d", "put": "s", "exit": "s",
}

LOW_14 = 2 ** 14 - 1
LOW_18 = 2 ** 18 - 1

# The least and the greatest operand of each kind.
BOUNDS = {
    "d": (0, 15), "s": (0, 15), "i": (-2 ** 13, 2 ** 13 - 1), "j": (-2 ** 17, 2 ** 17 - 1),
    "u": (0, LOW_18),
}

LOADS = ("lw", "lb", "lbu")
STORES = ("sw", "sb")
BRANCHES = ("beq", "bne", "blt", "bge", "bltu", "bgeu")

# The op of two registers that gives what an op with an immediate gives.
OPS_OF_IMMEDIATES = {
    "addi": "add", "andi": "and", "ori": "or", "xori": "xor", "shli": "shl", "shri": "shr",
    "sari": "sar", "slti": "slt",
}


def is_operand(kind, value):
    """True for an operand that an instruction may have in a place of this kind."""
    if not is_number(value):
        return False
    low, high = BOUNDS[kind]
    return low <= value <= high


def is_instruction(value):
    """True for an instruction, whatever plain value is asked about."""
    if not isinstance(value, tuple) or len(value) == 0:
        return False
    if not isinstance(value[0], str) or value[0] not in FORMS:
        return False
    kinds = FORMS[value[0]]
    if len(value) != len(kinds) + 1:
        return False
    return all([is_operand(kind, operand) for kind, operand in zip(kinds, value[1:])])


def plain_op(op):
    """The op of two registers that computes the same."""
    return OPS_OF_IMMEDIATES.get(op, op)


def is_alu(op):
    """True for an op whose result is computed from words alone, without memory or input."""
    return FORMS[op] == "dss" or op in OPS_OF_IMMEDIATES


def encode(instruction):
    """The word of an instruction."""
    op = instruction[0]
    word = (OPS.index(op) + 1) << 26
    shift = 22
    for kind, operand in zip(FORMS[op], instruction[1:]):
        if kind in "ds":
            word += operand << shift
            shift -= 4
        elif kind == "i":
            word += operand & LOW_14
        else:
            word += operand & LOW_18
    return word


def decode(word):
    """The instruction of a word, or None if the word is no instruction's."""
    number = word >> 26
    if not 1 <= number <= len(OPS):
        return None
    op = OPS[number - 1]
    operands = []
    shift = 22
    for kind in FORMS[op]:
        if kind in "ds":
            operands.append((word >> shift) & 15)
            shift -= 4
        else:
            operands.append(_immediate(kind, word))
    found = (op, *operands)
    # A bit that the form leaves unused must be 0, and only then the word comes back.
    return found if encode(found) == word else None


def _immediate(kind, word):
    if kind == "i":
        return _with_sign(word & LOW_14, 2 ** 13)
    if kind == "j":
        return _with_sign(word & LOW_18, 2 ** 17)
    return word & LOW_18


def _with_sign(bits, half):
    return bits - 2 * half if bits >= half else bits


def reads(instruction):
    """The registers that an instruction reads, ascending, without 0."""
    kinds = FORMS[instruction[0]]
    used = [operand for kind, operand in zip(kinds, instruction[1:]) if kind == "s"]
    return tuple(sorted({number for number in used if number != 0}))


def writes(instruction):
    """The register that an instruction writes, or -1 if it writes none or register 0."""
    if not FORMS[instruction[0]].startswith("d") or instruction[1] == 0:
        return -1
    return instruction[1]
