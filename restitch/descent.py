"""Calls and routines of the code that a table finds, and a search for code without facts."""

from restitch.blocks import behind, ends_block, followers
from restitch.codes import BRANCHES, writes
from restitch.graphs import reached_from_all
from restitch.kinds import MASK
from restitch.ways import instruction_at, is_place


def descend(image):
    """The places, ascending, that are found from the entry without going through a jalr."""
    found = {}
    waiting = [image[1]]
    while waiting:
        address = waiting.pop()
        if address in found or not is_place(image, address):
            continue
        found[address] = True
        waiting.extend(_next_ones(address, instruction_at(image, address)))
    return sorted(found)


def _next_ones(address, instruction):
    """The addresses to which a search without facts goes on."""
    if instruction is None:
        return []
    found = []
    branch = instruction[0] in BRANCHES
    if branch or is_call(instruction) or not ends_block(instruction):
        found.append(behind(address))
    if branch or instruction[0] == "jal":
        found.append((address + 4 * instruction[-1]) & MASK)
    return found


def is_call(instruction):
    """True for a jal or jalr with a result."""
    return instruction is not None and instruction[0] in ("jal", "jalr") and writes(instruction) != -1


def calls(image, table):
    """The calls: the address of each, the register that it writes, and its targets."""
    found = []
    for address, facts in table:
        instruction = instruction_at(image, address)
        if is_call(instruction):
            found.append((address, instruction[1], followers(image, address, facts)))
    return found


def routines(image, table):
    """The known targets of calls, and the places of each routine."""
    heads = {}
    for _, _, targets in calls(image, table):
        for target in known_ones(targets):
            heads[target] = True
    return reached_from_all(_graph_inside(image, table), heads)


def known_ones(targets):
    """The targets that are known; a call that may lead anywhere has none."""
    return () if targets is None else targets


def _graph_inside(image, table):
    """The places that follow each place without leaving the routine."""
    rows = dict(table)
    graph = {}
    for address, facts in table:
        instruction = instruction_at(image, address)
        if is_call(instruction):
            graph[address] = [behind(address)] if behind(address) in rows else []
        elif instruction is not None and instruction[0] == "jalr":
            graph[address] = []
        else:
            graph[address] = followers(image, address, facts)
    return graph


def call_graph(image, table):
    """The pairs of a caller's routine, or -1 if no routine holds it, and a known target."""
    called = {address: known_ones(targets) for address, _, targets in calls(image, table)}
    found = {}
    held = {}
    for head, inside in routines(image, table):
        for address in inside:
            if address in called:
                held[address] = True
                for target in called[address]:
                    found[(head, target)] = True
    for address, targets in called.items():
        if address not in held:
            for target in targets:
                found[(-1, target)] = True
    return sorted(found)
