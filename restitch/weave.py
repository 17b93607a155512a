"""Counters of the old instructions in a book."""

from restitch.desk import Desk, Passage
from restitch.ways import is_place

MOST_COUNTERS = 1000


def count_places(image, book, paper, addresses):
    """The pair with a counter for each of some places, which have none so far."""
    if len(addresses) == 0:
        return book, paper
    facts, rows, counters = paper
    added = dict(zip(addresses, _free_numbers(counters)))
    desk = Desk(image, book, paper)
    blocks = tuple([(label, _counted_body(desk, label, body, added), end) for label, body, end in book[0]])
    pairs = [(number, address) for address, number in added.items()]
    return (blocks, book[1], book[2]), (facts, rows, tuple(sorted([*counters, *pairs])))


def _free_numbers(counters):
    """The numbers of counters that none has, ascending."""
    taken = {number: True for number, _ in counters}
    return [number for number in range(MOST_COUNTERS) if number not in taken]


def _counted_body(desk, label, body, added):
    """The body with a line for each step that begins at a place that gets a counter."""
    way = desk.walked(label)
    steps = [(added[address], ahead) for address, ahead in way.begun if address in added]
    if steps == []:
        return body
    passage = Passage(desk, label, way)
    due = {}
    for number, ahead in steps:
        due.setdefault(ahead, []).append(("count", number))
    found = []
    for line in body:
        ahead = len(passage.side.events)
        passage.read([line])
        if len(passage.side.events) > ahead:
            found.extend(due.get(ahead, []))
        found.append(line)
    return tuple(found + due.get(len(passage.side.events), []))


def weave(image, book, paper, *, amount=0):
    """The pair with counters for the places where blocks begin, at most amount of them (0: all)."""
    _, rows, counters = paper
    taken = {address: True for _, address in counters}
    found = sorted({address for _, address, _, _ in rows if address not in taken and is_place(image, address)})
    # There are no more numbers than that.
    free = len(_free_numbers(counters))
    most = free if amount == 0 else min(amount, free)
    return count_places(image, book, paper, tuple(found[:most]))


def counted(paper, counts):
    """The pairs of each counted address and its count, by the counts of a run."""
    found = dict(counts)
    return sorted([(address, found.get(number, 0)) for number, address in paper[2]])
