"""The errors that the program raises."""


class RestitchError(ValueError):
    """The base of all errors of the program."""


class AssemblyError(RestitchError):
    """A line of a text, counted from 1, that is no code."""

    def __init__(self, line):
        super().__init__(f"line {line} cannot be assembled")
        self.line = line


class BookError(RestitchError):
    """Bytes that are no packed book."""


class ImageError(RestitchError):
    """Bytes that are no packed image: at is the index of the item that cannot stand there."""

    def __init__(self, at):
        super().__init__(f"the item at byte {at} cannot stand there")
        self.at = at


class LinkError(RestitchError):
    """Parts that cannot be linked: the index of the part (or -1) and the code of its fault."""

    def __init__(self, part, code):
        super().__init__(f"part {part} has the fault {code}")
        self.part = part
        self.code = code


class ScriptError(RestitchError):
    """A text that is no script: at is the offset of the character that cannot stand there."""

    def __init__(self, at):
        super().__init__(f"the character at offset {at} cannot stand there")
        self.at = at


class UnknownWord(RestitchError):
    """A word of a script that names no rewriting."""

    def __init__(self, word):
        super().__init__(f"{word} is no rewriting")
        self.word = word
