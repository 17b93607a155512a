"""Lines whose results are known, and loads whose values are in a register."""

from restitch.codes import LOADS, is_alu
from restitch.desk import Desk, Passage
from restitch.settling import Foresight
from restitch.walk import read_line


def known(image, book, paper, *, amount=1000):
    """The pair with words in the place of operations whose results are known."""
    return _reworked(Desk(image, book, paper), book, paper, amount, _words_in_body)


def reuse(image, book, paper, *, amount=1000):
    """The pair with moves in the place of loads whose values are in a register."""
    return _reworked(Desk(image, book, paper), book, paper, amount, _moves_in_body)


def _reworked(desk, book, paper, amount, find):
    """The pair with the first amount of the lines changed that a function finds in the bodies."""
    blocks = []
    left = amount
    for block in book[0]:
        body, count = _reworked_body(desk, block, left, find)
        left -= count
        blocks.append((block[0], body, block[2]))
    return (tuple(blocks), book[1], book[2]), paper


def _reworked_body(desk, block, most, find):
    """The body behind as many turns as change it and leave it taken, and the number of changes."""
    label, body, end = block
    count = 0
    if most == 0:
        return body, count
    way = desk.walked(label)
    while count < most:
        lines = find(Passage(desk, label, way), body)
        chosen = dict(list(lines.items())[:most - count])
        changed = tuple([chosen.get(at, line) for at, line in enumerate(body)])
        # The way is done already, so no more steps are asked for.
        if len(chosen) == 0 or Passage(desk, label, way).reason(0, changed, end) is not None:
            break
        body = changed
        count += len(chosen)
    return body, count


def _words_in_body(passage, body):
    """For the index of each alu line whose result is a known word the line that gives the word."""
    found = {}
    sight = Foresight(passage.pool, passage.way.known)
    for at, line in enumerate(body):
        ahead = len(passage.side.events)
        result = read_line(passage.side, passage.counts, line)
        if line[0] == "do" and is_alu(line[1][0]):
            word = passage.pool.word_of(sight.settled(ahead, result))
            if word is not None:
                found[at] = ("li", line[1][1], word)
    return found


def _moves_in_body(passage, body):
    """For the index of each quiet load whose value a register has the line that moves it."""
    found = {}
    for at, line in enumerate(body):
        if line[0] != "do" or line[1][0] not in LOADS:
            read_line(passage.side, passage.counts, line)
            continue
        ahead = len(passage.side.events)
        registers = list(passage.side.registers)
        value = read_line(passage.side, passage.counts, line)
        if len(passage.side.events) == ahead and value in registers:
            found[at] = ("do", ("add", line[1][1], registers.index(value), 0), line[2])
    return found
