"""The checker: whether a book does what the image does, by its paper."""

from restitch.book import book_faults, is_counter, is_label
from restitch.desk import Desk, Passage
from restitch.holding import facts_at, holds_table
from restitch.kinds import is_number, is_row, is_word
from restitch.ways import is_place

MOST_STEPS = 20000


def check(image, book, paper):
    """True if the book does what the image does, by the paper; both may be any plain values."""
    return refusal(image, book, paper) is None


def refusal(image, book, paper):
    """The least label whose row is refused (-1 for the whole) and the reason, or None."""
    reason = _reason_of_whole(image, book, paper)
    if reason is not None:
        return (-1, reason)
    desk = Desk(image, book, paper)
    blocks = {label: (body, end) for label, body, end in book[0]}
    for label, _, _, steps in paper[1]:
        body, end = blocks[label]
        reason = Passage(desk, label).reason(steps, body, end)
        if reason is not None:
            return (label, reason)
    return None


def row_of(paper, label):
    """The row of a label, or None."""
    for row in paper[1]:
        if row[0] == label:
            return row
    return None


def _reason_of_whole(image, book, paper):
    """The first reason that is no row's, or None."""
    if book_faults(book) != [] or not _is_paper(image, book, paper):
        return "form"
    facts, rows, _ = paper
    if not holds_table(image, facts):
        return "facts"
    addresses = {row[0]: row[1] for row in rows}
    if addresses[book[1]] != image[1]:
        return "entry"
    for address, label in book[2]:
        if addresses[label] != address or facts_at(facts, address) is None:
            return "table"
    return "ring" if _has_ring(book, rows) else None


def _is_paper(image, book, paper):
    """True for a paper of the right form; nothing is said of its facts."""
    if not is_row(paper, 3):
        return False
    _, rows, counters = paper
    return _are_rows(book, rows) and _are_counters(image, book, counters)


def _are_rows(book, rows):
    if not isinstance(rows, tuple) or not all([_is_row_of_paper(row) for row in rows]):
        return False
    return [row[0] for row in rows] == sorted([block[0] for block in book[0]])


def _is_row_of_paper(row):
    if not is_row(row, 4):
        return False
    label, address, same, steps = row
    if not is_label(label) or not is_word(address) or not _are_registers(same):
        return False
    return is_number(steps) and 0 <= steps <= MOST_STEPS


def _are_registers(same):
    if not isinstance(same, tuple) or not all([is_number(number) and 1 <= number <= 15 for number in same]):
        return False
    return _is_ascending(same)


def _is_ascending(numbers):
    return all([number < following for number, following in zip(numbers, numbers[1:])])


def _are_counters(image, book, counters):
    if not isinstance(counters, tuple) or not all([_is_pair_of_counter(image, pair) for pair in counters]):
        return False
    numbers = {number: place for number, place in counters}
    if not _is_ascending([number for number, _ in counters]) or len(counters) != len({place for _, place in counters}):
        return False
    for _, body, _ in book[0]:
        if not all([line[0] != "count" or line[1] in numbers for line in body]):
            return False
    return True


def _is_pair_of_counter(image, pair):
    return is_row(pair, 2) and is_counter(pair[0]) and is_word(pair[1]) and is_place(image, pair[1])


def _has_ring(book, rows):
    """True if blocks without steps lead back to one of them by their ends "go"."""
    still = {row[0]: True for row in rows if row[3] == 0}
    following = {label: end[1] for label, _, end in book[0] if label in still and end[0] == "go"}
    done = {}
    for start in following:
        path = {}
        label = start
        while label in following and label not in done:
            if label in path:
                return True
            path[label] = True
            label = following[label]
        for label in path:
            done[label] = True
    return False
