"""Tables of facts, and whether one holds."""

from restitch.kinds import is_row, is_word
from restitch.values import MOST_WORDS, ZERO, allows, within
from restitch.ways import is_place, places, ways

REGISTERS = 16


def plain(image):
    """The table of all places without facts."""
    facts = (ZERO, *[None] * (REGISTERS - 1))
    return tuple([(address, facts) for address in places(image)])


def facts_at(table, address):
    """The facts of an address in a table, or None if the table has no such address."""
    low, high = 0, len(table)
    while low < high:
        middle = (low + high) // 2
        if table[middle][0] < address:
            low = middle + 1
        else:
            high = middle
    return table[low][1] if low < len(table) and table[low][0] == address else None


def is_table(image, value):
    """True for a table of facts about the image, whatever plain value is asked about."""
    if not isinstance(value, tuple) or not all([_is_entry(image, item) for item in value]):
        return False
    return all([item[0] < following[0] for item, following in zip(value, value[1:])])


def _is_entry(image, item):
    if not is_row(item, 2) or not is_word(item[0]) or not is_place(image, item[0]):
        return False
    facts = item[1]
    if not is_row(facts, REGISTERS) or not all([_is_fact(fact) for fact in facts]):
        return False
    return facts[0] == ZERO


def _is_fact(value):
    if value is None:
        return True
    if is_row(value, 2) and value[0] == "words":
        return _is_ascending_row(value[1])
    if is_row(value, 3) and value[0] == "range":
        return is_word(value[1]) and is_word(value[2]) and value[1] < value[2]
    return False


def _is_ascending_row(row):
    if not isinstance(row, tuple) or not 1 <= len(row) <= MOST_WORDS:
        return False
    if not all([is_word(word) for word in row]):
        return False
    return all([word < following for word, following in zip(row, row[1:])])


def holds_table(image, value):
    """True if a value is a table that says nothing wrong about the runs of the image."""
    if not is_table(image, value):
        return False
    rows = dict(value)
    if is_place(image, image[1]) and not _allows_start(rows.get(image[1])):
        return False
    any_place = False
    for address, facts in value:
        found = ways(image, address, facts)
        if found is None:
            any_place = True
        elif not all([_leads_into(image, rows, target, behind) for target, behind in found]):
            return False
    return not any_place or value == plain(image)


def _allows_start(facts):
    return facts is not None and all([allows(fact, 0) for fact in facts])


def _leads_into(image, rows, target, behind):
    """True if the table knows where a way leads, and nothing more than the way tells."""
    if not is_place(image, target):
        return True
    facts = rows.get(target)
    return facts is not None and all([within(a, b) for a, b in zip(behind, facts)])
