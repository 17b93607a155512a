"""Finding a table of facts that holds."""

from restitch.holding import REGISTERS, plain
from restitch.values import ZERO
from restitch.ways import is_place, joined_facts, ways

MOST_STEPS = 100000
LAST_CHANGE = 7


class Search:
    """The facts that are known so far, and the queue of the places whose ways are to be followed."""

    def __init__(self, image):
        self.image = image
        self.facts = {}
        self.changes = {}
        self.queue = []
        self.waiting = {}

    def reach(self, target, facts):
        """Joins the facts of a way to an address into what is known."""
        if not is_place(self.image, target):
            return
        old = self.facts.get(target)
        new = facts if old is None else joined_facts(old, facts)
        if new == old:
            return
        if old is not None:
            new = self.changed(target, old, new)
        self.facts[target] = new
        if target not in self.waiting:
            self.waiting[target] = True
            self.queue.append(target)

    def changed(self, target, old, new):
        """What becomes of a place's facts at a change, which is counted."""
        self.changes[target] = self.changes.get(target, 0) + 1
        if self.changes[target] != LAST_CHANGE:
            return new
        return tuple([a if a == b else None for a, b in zip(old, new)])

    def follow(self):
        """Follows all ways; False if any place may be reached, or it takes too many steps."""
        steps = 0
        while steps < len(self.queue):
            if steps == MOST_STEPS:
                return False
            address = self.queue[steps]
            steps += 1
            del self.waiting[address]
            found = ways(self.image, address, self.facts[address])
            if found is None:
                return False
            for target, facts in found:
                self.reach(target, facts)
        return True


def solve(image):
    """A table that holds, with what is found about the runs of the image."""
    search = Search(image)
    search.reach(image[1], (ZERO,) * REGISTERS)
    if not search.follow():
        return plain(image)
    return tuple([(address, search.facts[address]) for address in sorted(search.facts)])
