"""Blocks of the code that a table of facts finds."""

from restitch.codes import BRANCHES
from restitch.graphs import joined_sets
from restitch.kinds import MASK
from restitch.ways import instruction_at, is_place, ways

# Stands for all leaders in a graph, where any of them may follow.
ANY_LEADER = -1


def ends_block(instruction):
    """True for an instruction that ends a block; None stands for a word that is illegal."""
    return instruction is None or instruction[0] == "exit" or is_jump(instruction)


def is_jump(instruction):
    """True for a branch, jal or jalr."""
    return instruction is not None and (instruction[0] in BRANCHES or instruction[0] in ("jal", "jalr"))


def followers(image, address, facts):
    """The places, ascending, that may follow the word at a place; None if any may."""
    found = ways(image, address, facts)
    if found is None:
        return None
    return tuple([target for target, _ in found if is_place(image, target)])


def leaders(image, table):
    """The addresses at which blocks begin, ascending."""
    rows = dict(table)
    found = {}
    if image[1] in rows:
        found[image[1]] = True
    for address, facts in table:
        if not is_jump(instruction_at(image, address)):
            continue
        targets = followers(image, address, facts)
        if targets is None:
            # Each place is a leader then.
            return [place for place, _ in table]
        for target in targets:
            found[target] = True
        if behind(address) in rows:
            found[behind(address)] = True
    return sorted(found)


def behind(address):
    return (address + 4) & MASK


def code_blocks(image, table):
    """The blocks: the address of each, its number of words, and the places that may follow."""
    rows = dict(table)
    heads = {head: True for head in leaders(image, table)}
    found = []
    for head in heads:
        last = head
        count = 1
        while not ends_block(instruction_at(image, last)) and behind(last) in rows and behind(last) not in heads:
            last = behind(last)
            count += 1
        found.append((head, count, followers(image, last, rows[last])))
    return found


def code_loops(image, table):
    """The sets of blocks that lead to each other, each as the tuple of their leaders."""
    graph = {}
    for head, _, follow in code_blocks(image, table):
        graph[head] = [ANY_LEADER] if follow is None else list(follow)
    # A point between the blocks that any leader may follow and the leaders spares most of the edges.
    graph[ANY_LEADER] = list(graph)
    found = []
    for joined in joined_sets(graph):
        loop = tuple(sorted([head for head in joined if head != ANY_LEADER]))
        if len(joined) > 1 or loop != () and loop[0] in graph[loop[0]]:
            found.append(loop)
    return sorted(found)
