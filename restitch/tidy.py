"""The order of blocks, blocks that become one, and blocks that are not needed."""

from heapq import heappop, heappush

from restitch.book import targets_of_end
from restitch.desk import MOST_STEPS_TOGETHER, Desk, Passage


def order(image, book, paper, *, amount=0):
    """The pair with the blocks in chains."""
    blocks = {block[0]: block for block in book[0]}
    placed = {}
    for start in [book[1]] + [block[0] for block in book[0]]:
        label = start if start not in placed else None
        while label is not None:
            placed[label] = True
            label = _next_in_chain(blocks[label][2], placed)
    return (tuple([blocks[label] for label in placed]), book[1], book[2]), paper


def _next_in_chain(end, placed):
    """The last label of an end whose block was not placed, or None."""
    for label in reversed(targets_of_end(end)):
        if label not in placed:
            return label
    return None


def join(image, book, paper, *, amount=1000):
    """The pair with blocks that lead to one that nothing else leads to joined with it."""
    joining = Joining(image, book, paper)
    turns = 0
    while turns < amount and joining.turn():
        turns += 1
    return joining.finished()


class Joining:
    """Blocks that are joined, one pair after the other."""

    def __init__(self, image, book, paper):
        self.desk = Desk(image, book, paper)
        self.whole = (book, paper)
        self.bodies = {label: body for label, body, _ in book[0]}
        self.ends = {label: end for label, _, end in book[0]}
        self.steps = {row[0]: row[3] for row in paper[1]}
        self.labels = [block[0] for block in book[0]]
        self.indices = {label: index for index, label in enumerate(self.labels)}
        self.edges = count_edges(book)
        # The last block that goes to a label: the only one, where the label has one edge alone.
        self.goers = {end[1]: label for label, end in self.ends.items() if end[0] == "go"}
        # The indices of all blocks that can perhaps be joined with the next one: a heap.
        self.waiting = list(range(len(self.labels)))
        self.passage = None
        self.passing = None

    def turn(self):
        """Joins the first block that can be; False if there is none."""
        while len(self.waiting) > 0:
            label = self.labels[heappop(self.waiting)]
            if label in self.bodies and self.joins(label):
                # What leads to the block leads to a longer one now, and may fit it.
                heappush(self.waiting, self.indices[label])
                if label in self.goers:
                    heappush(self.waiting, self.indices[self.goers[label]])
                return True
        return False

    def joins(self, label):
        """Joins a block with the one that it goes to, if it can be."""
        end = self.ends[label]
        if end[0] != "go" or not self.may_join(label, end[1]):
            return False
        other = end[1]
        passage = self.passage_of(label)
        if passage.reason(self.steps[other], self.bodies[other], self.ends[other]) is not None:
            self.passing = None
            return False
        self.take(label, other)
        return True

    def may_join(self, label, other):
        if other == label or other == self.whole[0][1] or self.edges[other] != 1:
            return False
        return self.steps[label] + self.steps[other] <= MOST_STEPS_TOGETHER

    def passage_of(self, label):
        """The passage of a block up to its end, which goes on if it was the last one, too."""
        if self.passing != label:
            self.passing = label
            self.passage = Passage(self.desk, label)
            self.passage.reason(self.steps[label], self.bodies[label], self.ends[label])
        return self.passage

    def take(self, label, other):
        self.bodies[label] = self.bodies[label] + self.bodies.pop(other)
        self.ends[label] = self.ends.pop(other)
        self.steps[label] += self.steps.pop(other)
        if self.ends[label][0] == "go":
            self.goers[self.ends[label][1]] = label

    def finished(self):
        (_, entry, table), (facts, rows, counters) = self.whole
        blocks = [(label, self.bodies[label], self.ends[label]) for label in self.labels if label in self.bodies]
        left = [(*row[:3], self.steps[row[0]]) for row in rows if row[0] in self.steps]
        return (tuple(blocks), entry, table), (facts, tuple(left), counters)


def count_edges(book):
    """How often the ends and the table mention each label."""
    found = {block[0]: 0 for block in book[0]}
    for _, _, end in book[0]:
        for label in targets_of_end(end):
            found[label] += 1
    for _, label in book[2]:
        found[label] += 1
    return found


def drop(image, book, paper, *, amount=0):
    """The pair without what no run needs: table entries, blocks, and counters."""
    desk = Desk(image, book, paper)
    jumps = {label: _jump_targets(desk, label) for label, _, end in book[0] if end[0] == "through"}
    blocks, table = book[0], book[2]
    many = -1
    while many != len(blocks) + len(table):
        many = len(blocks) + len(table)
        table = _needed_entries(table, [jumps[block[0]] for block in blocks if block[0] in jumps])
        blocks = _reached_blocks(blocks, [book[1]] + [label for _, label in table])
    left = {block[0]: True for block in blocks}
    rows = tuple([row for row in paper[1] if row[0] in left])
    counters = _used_counters(desk, blocks, paper[2])
    return (blocks, book[1], table), (paper[0], rows, counters)


def _jump_targets(desk, label):
    """The targets of the jump that ends the way of a block; None if it may lead anywhere."""
    return desk.walked(label).last[2]


def _needed_entries(table, jumps):
    """The entries of a table of addresses to which jumps with these targets may lead."""
    if None in jumps:
        return table
    needed = {target: True for targets in jumps for target in targets}
    return tuple([pair for pair in table if pair[0] in needed])


def _reached_blocks(blocks, starts):
    """The blocks to which edges lead from some labels."""
    ends = {label: end for label, _, end in blocks}
    found = {label: True for label in starts}
    waiting = list(found)
    while waiting:
        following = targets_of_end(ends[waiting.pop()])
        for label in following:
            if label not in found:
                found[label] = True
                waiting.append(label)
    return tuple([block for block in blocks if block[0] in found])


def _used_counters(desk, blocks, counters):
    """The counters that a line adds to, or at whose place a way begins a step."""
    added = {line[1]: True for _, body, _ in blocks for line in body if line[0] == "count"}
    if all([number in added for number, _ in counters]):
        return counters
    begun = {}
    for label, _, _ in blocks:
        for address, _ in desk.walked(label).begun:
            begun[address] = True
    return tuple([(number, place) for number, place in counters if number in added or place in begun])
