"""The first book of an image, which does what the old code does line by line."""

from restitch.blocks import code_blocks, ends_block
from restitch.holding import plain
from restitch.kinds import MASK
from restitch.solve import solve
from restitch.symbols import Pool
from restitch.walk import Code, Way
from restitch.ways import instruction_at, is_place

ALL_REGISTERS = (1, 2, 3, 4, 5, 6, 7, 8, 9, 10, 11, 12, 13, 14, 15)


def first_book(image, *, whole=False):
    """The first book and its paper: by what is found about the code, or whole, without facts."""
    facts = plain(image) if whole else solve(image)
    code = Code(image, facts)
    drafts = [_draft(code, address, count) for address, count, _ in code_blocks(image, facts)]
    drafts += _drafts_of_traps(image[1], drafts)
    labels = {draft[0]: label for label, draft in enumerate(drafts)}
    blocks = [(labels[address], body, _with_labels(end, labels)) for address, body, end, _ in drafts]
    table = [(address, labels[address]) for address in _targets_of_jumps(code)]
    rows = [(labels[address], address, ALL_REGISTERS, steps) for address, _, _, steps in drafts]
    return (tuple(blocks), labels[image[1]], tuple(table)), (facts, tuple(rows), ())


def _draft(code, address, count):
    """A block of so many words: its address, its body, its end, which names addresses in the place
    of labels, and its steps.
    """
    body = []
    for place in range(address, address + 4 * count, 4):
        instruction = instruction_at(code.image, place)
        if not ends_block(instruction):
            body.append(_line(instruction, place))
    way = Way(Pool(), code, address)
    way.go(count)
    last_place = address + 4 * (count - 1)
    last = instruction_at(code.image, last_place)
    behind = (last_place + 4) & MASK
    # The result of a jump that is led on is a line; of one that is not, the end has it.
    if way.last[0] == "at" and last[0] in ("jal", "jalr") and last[1] != 0:
        body.append(("li", last[1], behind))
    return address, tuple(body), _end(way.last, last), count


def _line(instruction, address):
    if instruction[0] == "lui":
        return ("li", instruction[1], instruction[2] << 14)
    return ("do", instruction, address)


def _end(last, instruction):
    """The end of a block whose way ended so, by an instruction."""
    if last[0] == "at":
        return ("go", last[1])
    if last[0] == "branch":
        return ("if", *instruction[:3], last[4], last[5])
    if last[0] == "through":
        _, _, _, rd, behind = last
        return ("through", instruction[2], instruction[3], rd, 0 if rd == 0 else behind)
    return instruction if last[0] == "exit" else last


def _addresses(end):
    """The addresses that an end names in the place of labels."""
    if end[0] == "go":
        return [end[1]]
    return [end[4], end[5]] if end[0] == "if" else []


def _with_labels(end, labels):
    count = len(_addresses(end))
    return (*end[:len(end) - count], *[labels[address] for address in _addresses(end)])


def _drafts_of_traps(entry, drafts):
    """The blocks of the addresses that are led to and have no code."""
    taken = {draft[0]: True for draft in drafts}
    found = {}
    for address in [entry] + [address for draft in drafts for address in _addresses(draft[2])]:
        if address not in taken:
            found[address] = True
    return [(address, (), ("trap", "fetch", address), 1) for address in sorted(found)]


def _targets_of_jumps(code):
    """The places to which a jump through a register may lead, ascending."""
    found = {}
    for address, _ in code.facts:
        instruction, _, targets = code.place(address)
        if instruction is None or instruction[0] != "jalr":
            continue
        if targets is None:
            return [place for place, _ in code.facts]
        for target in targets:
            if is_place(code.image, target):
                found[target] = True
    return sorted(found)
