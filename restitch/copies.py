"""Short blocks that are copied to where they are gone to."""

from restitch.desk import MOST_STEPS_TOGETHER, Desk, Passage


def copies(image, book, paper, *, amount=8):
    """The pair with blocks of at most amount lines copied behind those that go to them."""
    facts, rows, counters = paper
    copying = Copying(image, book, paper)
    blocks = []
    steps = {}
    for label, body, end in book[0]:
        block = copying.copied(label, body, end, amount)
        if block is not None:
            steps[label] = copying.steps_together(label, end[1])
        blocks.append((label, body, end) if block is None else block)
    left = tuple([(*row[:3], steps.get(row[0], row[3])) for row in rows])
    return (tuple(blocks), book[1], book[2]), (facts, left, counters)


class Copying:
    """The blocks and rows from which copies are made."""

    def __init__(self, image, book, paper):
        self.desk = Desk(image, book, paper)
        self.blocks = {block[0]: block for block in book[0]}
        self.labels = {}
        for label, address, _, _ in paper[1]:
            self.labels.setdefault(address, []).append(label)

    def steps_together(self, label, other):
        return self.desk.rows[label][3] + self.desk.rows[other][3]

    def copied(self, label, body, end, amount):
        """A block with the one that it goes to copied behind it, or None if it stays."""
        if end[0] != "go" or end[1] == label:
            return None
        _, more, other_end = self.blocks[end[1]]
        steps = self.steps_together(label, end[1])
        if len(more) > amount or steps > MOST_STEPS_TOGETHER:
            return None
        for lines, new_end in self.choices(label, steps, other_end):
            if self.desk.takes(label, steps, body + more + lines, new_end):
                return (label, body + more + lines, new_end)
        return None

    def choices(self, label, steps, end):
        """The pairs of lines and an end that may take the place of a copied end."""
        if end[0] not in ("if", "through"):
            return [((), end)]
        passage = Passage(self.desk, label)
        if not passage.way.go(steps) or passage.way.last[0] != "at":
            return [((), end)]
        lines = ()
        if end[0] == "through" and end[3] != 0:
            lines = (("li", end[3], end[4]),)
        return [(lines, ("go", found)) for found in self.labels.get(passage.way.last[1], [])]
