"""Terms that are settled while more and more becomes known."""

from restitch.symbols import parts_of_node


class Settler:
    """Settles terms by the words that are known, and keeps what it found until more is known."""

    def __init__(self, pool):
        self.pool = pool
        self.given = {}
        # The settled terms that were found; for each of the terms those that are made of it, and
        # for each settled term those that it was found for.
        self.done = {}
        self.users = {}
        self.origins = {}

    def learn(self, term, word):
        """Takes it for known that a term is a word."""
        self.given[term] = word
        stale = [term] + self.origins.pop(term, [])
        while stale:
            number = stale.pop()
            if self.done.pop(number, None) is not None:
                stale.extend(self.users.pop(number, []))

    def settled(self, t):
        """What the settled of a pool is with all words that are known."""
        if len(self.given) == 0:
            return t
        waiting = [t]
        while waiting:
            number = waiting[-1]
            if number in self.done:
                waiting.pop()
                continue
            parts = self.parts(number)
            missing = [part for part in parts if part not in self.done]
            if missing:
                waiting.extend(missing)
            else:
                self.settle(number, parts)
        return self.done[t]

    def parts(self, number):
        """The terms that must be settled ahead of a term."""
        return () if number in self.given else parts_of_node(self.pool.node(number))

    def settle(self, number, parts):
        """Settles a term whose parts are settled."""
        if number in self.given:
            found = self.pool.word(self.given[number])
        else:
            found = self.pool.made_again(number, self.done)
            if found in self.given:
                self.origins.setdefault(found, []).append(number)
                found = self.pool.word(self.given[found])
        self.done[number] = found
        self.origins.setdefault(found, []).append(number)
        for part in parts:
            self.users.setdefault(part, []).append(number)


class Foresight:
    """A settler that learns from a list of what becomes known, ascending by the events ahead."""

    def __init__(self, pool, known):
        self.known = known
        self.at = 0
        self.settler = Settler(pool)

    def settled(self, ahead, term):
        """The term by what was known ahead of that many events; from call to call not fewer."""
        while self.at < len(self.known) and self.known[self.at][2] <= ahead:
            self.settler.learn(self.known[self.at][0], self.known[self.at][1])
            self.at += 1
        return self.settler.settled(term)
