"""Books: blocks of new code, and what is wrong with one."""

from restitch.codes import BRANCHES, is_instruction
from restitch.kinds import is_number, is_row, is_word

TRAPS = ("fetch", "illegal", "load", "store")
ENDS_OF_RUNS = ("jal", "jalr", "exit")
# The kinds of the items of each end and each line behind its first one: l is a label, b a branch
# op, r a register, i an immediate, w a word, t the word of a trap, d an instruction that can be
# done in a line, c the number of a counter.
FORMS_OF_ENDS = {"go": "l", "if": "brrll", "through": "rirw", "exit": "r", "trap": "tw"}
FORMS_OF_LINES = {"do": "dw", "li": "rw", "count": "c"}
# The least and the greatest number of each kind of numbers.
BOUNDS_OF_ITEMS = {
    "l": (0, 2 ** 31 - 1), "r": (0, 15), "i": (-2 ** 13, 2 ** 13 - 1), "w": (0, 2 ** 32 - 1), "c": (0, 999),
}


def is_label(value):
    return _is_item("l", value)


def is_counter(value):
    return _is_item("c", value)


def _is_item(kind, value):
    """True for a value that may stand where an item of this kind is."""
    if kind in BOUNDS_OF_ITEMS:
        low, high = BOUNDS_OF_ITEMS[kind]
        return is_number(value) and low <= value <= high
    if kind == "d":
        return can_be_done(value)
    return isinstance(value, str) and value in (BRANCHES if kind == "b" else TRAPS)


def can_be_done(value):
    """True for an instruction that may stand in a line: one that goes on behind itself."""
    return is_instruction(value) and value[0] not in BRANCHES and value[0] not in ENDS_OF_RUNS


def _begins_with_word(value):
    return isinstance(value, tuple) and len(value) > 0 and isinstance(value[0], str)


def _has_form(form, value):
    """True for a tuple whose items behind the first one are of the form (of none, if None)."""
    if form is None or len(value) != len(form) + 1:
        return False
    return all([_is_item(kind, item) for kind, item in zip(form, value[1:])])


def is_line(value):
    return _begins_with_word(value) and _has_form(FORMS_OF_LINES.get(value[0]), value)


def is_end(value):
    return _begins_with_word(value) and _has_form(FORMS_OF_ENDS.get(value[0]), value)


def targets_of_end(end):
    """The labels that an end names, in its order."""
    if end[0] == "go":
        return [end[1]]
    return [end[4], end[5]] if end[0] == "if" else []


def _is_block(value):
    return is_row(value, 3) and is_number(value[0]) and isinstance(value[1], tuple)


def book_faults(book):
    """The pairs (label, code) of what is wrong with a book, whatever plain value it is."""
    if not is_row(book, 3) or not isinstance(book[0], tuple):
        return [(-1, "line")]
    blocks, entry, table = book
    good = [block for block in blocks if _is_block(block)]
    labels = {block[0]: True for block in good}
    found = {}
    if len(good) < len(blocks):
        found[(-1, "line")] = True
    for block in good:
        for code in _faults_of_block(block, labels):
            found[(block[0], code)] = True
    for pair in _faults_of_labels(good):
        found[pair] = True
    if not is_number(entry) or entry not in labels:
        found[(-1, "entry")] = True
    if not _is_table(table, labels):
        found[(-1, "table")] = True
    return sorted(found)


def _faults_of_block(block, labels):
    """The codes of what is wrong with a block's lines and end."""
    _, body, end = block
    found = []
    if not all([is_line(line) for line in body]):
        found.append("line")
    if not is_end(end):
        found.append("end")
    elif not all([label in labels for label in targets_of_end(end)]):
        found.append("target")
    return found


def _faults_of_labels(blocks):
    found = []
    seen = {}
    for label, _, _ in blocks:
        if not is_label(label):
            found.append((-1, "label"))
        if label in seen:
            found.append((label, "label"))
        seen[label] = True
    return found


def _is_table(table, labels):
    if not isinstance(table, tuple) or not all([_is_pair(pair, labels) for pair in table]):
        return False
    return all([pair[0] < following[0] for pair, following in zip(table, table[1:])])


def _is_pair(pair, labels):
    return is_row(pair, 2) and is_word(pair[0]) and is_number(pair[1]) and pair[1] in labels
