"""Instructions as text: showing code, and assembling it."""

from restitch.codes import BRANCHES, FORMS, decode, encode, is_operand
from restitch.errors import AssemblyError
from restitch.kinds import MASK, is_name, is_word
from restitch.memory import can_fetch, word_at

DIGITS = "0123456789"
# No number that a line may have is longer, with its sign.
LONGEST_NUMBER = 11


def show_instruction(instruction):
    """The text of an instruction."""
    op = instruction[0]
    shown = [_show_operand(kind, operand) for kind, operand in zip(FORMS[op], instruction[1:])]
    return op + " " + ", ".join(shown)


def _show_operand(kind, operand):
    return f"r{operand}" if kind in "ds" else str(operand)


def show_code(image, address, count):
    """A line for each of count words from an address on."""
    return [_show_place(image, (address + 4 * k) & MASK) for k in range(count)]


def _show_place(image, address):
    return f"{address:08x}: {_show_word(image, address)}"


def _show_word(image, address):
    if not can_fetch(image, address):
        return "none"
    word = word_at(image, address)
    instruction = decode(word)
    return f"word {word:08x}" if instruction is None else show_instruction(instruction)


def assemble(text):
    """The words of the lines of a text, as if they stood from address 0 on."""
    lines = [line.strip(" ") for line in text.split("\n")]
    labels = _first_labels(lines)
    words = []
    for index, line in enumerate(lines):
        if _is_silent(line):
            continue
        if line.endswith(":"):
            name = line[:-1]
            if name not in labels or labels[name][0] != index:
                raise AssemblyError(index + 1)
            continue
        word = _word_of_line(line, labels, len(words))
        if word is None:
            raise AssemblyError(index + 1)
        words.append(word)
    return words


def _is_silent(line):
    return line == "" or line.startswith("#")


def _first_labels(lines):
    """For each label the index of the first line that has it, and the number of words ahead."""
    labels = {}
    count = 0
    for index, line in enumerate(lines):
        if _is_silent(line):
            continue
        if not line.endswith(":"):
            count += 1
        elif is_name(line[:-1]) and line[:-1] not in labels:
            labels[line[:-1]] = (index, count)
    return labels


def _word_of_line(line, labels, place):
    """The word of a line of code that is the place-th word, or None if there is none."""
    op, _, rest = line.partition(" ")
    operands = [operand.strip(" ") for operand in rest.split(",")]
    if op == "word":
        number = _number_of(operands[0]) if len(operands) == 1 else None
        return number if is_word(number) else None
    if op not in FORMS or len(operands) != len(FORMS[op]):
        return None
    if _may_name_label(op) and operands[-1] in labels:
        operands[-1] = str(labels[operands[-1]][1] - place)
    values = [_value_of(kind, operand) for kind, operand in zip(FORMS[op], operands)]
    return None if None in values else encode((op, *values))


def _may_name_label(op):
    return op == "jal" or op in BRANCHES


def _value_of(kind, operand):
    """The number of an operand's text, or None if an instruction has no such operand."""
    if kind in "ds":
        value = _number_of(operand[1:]) if operand.startswith("r") else None
    else:
        value = _number_of(operand)
    return value if is_operand(kind, value) else None


def _number_of(text):
    """The number that is written so, or None: there is one way to write each."""
    digits = text[1:] if text.startswith("-") else text
    if digits == "" or len(text) > LONGEST_NUMBER or not all([sign in DIGITS for sign in digits]):
        return None
    return int(text) if str(int(text)) == text else None
