"""Scripts of rewritings, and a house that keeps an image and its book."""

from restitch.copies import copies
from restitch.dead import dead
from restitch.errors import ScriptError, UnknownWord
from restitch.first import first_book
from restitch.known import known, reuse
from restitch.layout import lay
from restitch.machine import GOES_ON, run
from restitch.runbook import run_book
from restitch.tidy import drop, join, order
from restitch.weave import counted, weave

WORDS = ("copies", "dead", "drop", "join", "known", "order", "reuse", "weave")
# The amount of each word where a script names none.
AMOUNTS = {"copies": 8, "dead": 0, "drop": 0, "join": 1000, "known": 1000, "order": 0, "reuse": 1000, "weave": 0}
DEFAULT = -1
DIGITS = "0123456789"
MOST_DIGITS = 6


def rewrite(image, script, *, whole=False):
    """The first book and paper of an image behind the rewritings of a script."""
    for word, _ in script:
        if word not in WORDS:
            raise UnknownWord(word)
    pair = first_book(image, whole=whole)
    for word, amount in script:
        pair = _rewritten(image, pair, word, amount)
    return pair


def _rewritten(image, pair, word, amount):
    """A pair behind one rewriting."""
    book, paper = pair
    most = AMOUNTS[word] if amount == DEFAULT else amount
    if word == "copies":
        return copies(image, book, paper, amount=most)
    if word == "dead":
        return dead(image, book, paper, amount=most)
    if word == "drop":
        return drop(image, book, paper, amount=most)
    if word == "join":
        return join(image, book, paper, amount=most)
    if word == "known":
        return known(image, book, paper, amount=most)
    if word == "order":
        return order(image, book, paper, amount=most)
    if word == "reuse":
        return reuse(image, book, paper, amount=most)
    return weave(image, book, paper, amount=most)


def read_script(text):
    """The script of a text; ScriptError tells where it is none."""
    script = []
    at = _behind_blanks(text, 0)
    while at < len(text):
        start = at
        while at < len(text) and text[at] not in " :":
            at += 1
        word = text[start:at]
        if word not in WORDS:
            raise ScriptError(start)
        amount = DEFAULT
        if at < len(text) and text[at] == ":":
            first = at + 1
            at = _behind_number(text, first)
            amount = int(text[first:at])
        script.append((word, amount))
        at = _behind_blanks(text, at)
    return script


def _behind_blanks(text, at):
    while at < len(text) and text[at] == " ":
        at += 1
    return at


def _behind_number(text, start):
    """The offset behind a number, which a blank or the end of the text must follow."""
    at = start
    while at < len(text) and text[at] != " ":
        if text[at] not in DIGITS or at - start == MOST_DIGITS or at == start + 1 and text[start] == "0":
            raise ScriptError(at)
        at += 1
    if at == start:
        raise ScriptError(at)
    return at


def show_script(script):
    """The text of a script."""
    return " ".join([word if amount == DEFAULT else f"{word}:{amount}" for word, amount in script])


class House:
    """An image, and a book and a paper of it that are rewritten."""

    def __init__(self, image):
        self.image = image
        self.pair = first_book(image)
        self.earlier = []

    @property
    def book(self):
        return self.pair[0]

    @property
    def paper(self):
        return self.pair[1]

    def apply(self, word, *, amount=-1):
        """Does one rewriting; True if the book or the paper changed."""
        if word not in WORDS:
            raise UnknownWord(word)
        before = self.pair
        self.pair = _rewritten(self.image, before, word, amount)
        self.earlier.append(before)
        return self.pair != before

    def undo(self):
        """Goes back to what was before the last rewriting; False if there is none."""
        if len(self.earlier) == 0:
            return False
        self.pair = self.earlier.pop()
        return True

    def play(self, data, *, fuel=10000):
        """What the book's run writes, how it ends, and what its counters count."""
        out, end, _, counts = run_book(self.image, self.pair[0], data, fuel=fuel)
        return [out, end, counted(self.pair[1], counts)]

    def size(self):
        """The number of bytes of the book's code."""
        return len(lay(self.pair[0])[0])

    def parts(self, data, *, fuel=10000):
        """The results of the image and of the book if they part, else None."""
        out, end, _ = run(self.image, data, fuel=fuel)
        if end == GOES_ON:
            return None
        book_out, book_end, _, _ = run_book(self.image, self.pair[0], data, fuel=8 * fuel + 64)
        if (out, end) == (book_out, book_end):
            return None
        return ((out, end), (book_out, book_end))
