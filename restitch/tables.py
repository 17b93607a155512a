"""Tables of addresses that the code reads."""

from restitch.memory import can_load, first_memory, load_word
from restitch.values import is_row_fact
from restitch.ways import allowed_targets, instruction_at, is_place, is_writable

FEWEST_ENTRIES = 2


def jump_tables(image, table):
    """The places that read a table of places: the address of each, and the table's entries."""
    found = []
    for address, facts in table:
        entries = _entries(image, address, facts)
        if len(entries) >= FEWEST_ENTRIES and all([is_place(image, word) for _, word in entries]):
            found.append((address, entries))
    return found


def _entries(image, address, facts):
    """The pairs (address, word there) of the constants that a lw reads, or none."""
    instruction = instruction_at(image, address)
    if instruction is None or instruction[0] != "lw" or not is_row_fact(facts[instruction[2]]):
        return ()
    # The address of a load is the sum that a jalr's target is.
    addresses = allowed_targets(image, address, facts)
    if not all([can_load(image, entry, 4) and not is_writable(image, entry) for entry in addresses]):
        return ()
    return tuple([(entry, load_word(image, first_memory(image), entry, 4)) for entry in addresses])
