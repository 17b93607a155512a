"""Names of addresses, and parts that are joined into one image."""

from restitch.codes import decode, encode, is_operand
from restitch.errors import LinkError
from restitch.kinds import MASK, is_name
from restitch.memory import image_faults
from restitch.words import bytes_of_words

FIRST_ADDRESS = 4096
BETWEEN_PARTS = 16
# What is added to an address before its upper bits are taken, so that the rest has a sign.
HALF_OF_LOW = 2 ** 13
OPS_OF_FORMS = {
    "jal": ("jal",),
    "high": ("lui",),
    "low": ("addi", "lw", "lb", "lbu", "sw", "sb"),
}


def name_at(image, address):
    """The last symbol at or in front of an address, with the distance to it, or an empty text."""
    found = ""
    for place, name in image[2]:
        if place > address:
            break
        found = name if place == address else f"{name}+{address - place}"
    return found


def address_of(image, name):
    """The address of the first symbol with a name, or -1."""
    for address, other in image[2]:
        if other == name:
            return address
    return -1


def link(parts):
    """The image of parts, whose needs are met by the exports of all of them."""
    addresses = _addresses(parts)
    exported = _exports(parts, addresses)
    words = [
        _met(index, part, address, exported) for index, (part, address) in enumerate(zip(parts, addresses))
    ]
    if "start" not in exported:
        raise LinkError(-1, "start")
    segments = tuple([
        (address, tuple(bytes_of_words(row)), part[2], part[3])
        for part, address, row in zip(parts, addresses, words)
    ])
    symbols = tuple(sorted([(address, name) for name, address in exported.items()]))
    image = (segments, exported["start"], symbols)
    if "size" in image_faults(image):
        raise LinkError(-1, "size")
    return image


def _addresses(parts):
    """The address of each part."""
    found = []
    free = FIRST_ADDRESS
    for part in parts:
        found.append(free)
        behind = free + 4 * len(part[1])
        free = (behind + BETWEEN_PARTS - 1) // BETWEEN_PARTS * BETWEEN_PARTS
    return found


def _exports(parts, addresses):
    """The address of each exported name."""
    exported = {}
    for index, (part, address) in enumerate(zip(parts, addresses)):
        for offset, name in part[4]:
            if name in exported or not is_name(name):
                raise LinkError(index, "export")
            exported[name] = address + offset
    return exported


def _met(index, part, address, exported):
    """The words of a part with its needs met."""
    needs = part[5]
    if not all([name in exported for _, _, name in needs]):
        raise LinkError(index, "need")
    words = list(part[1])
    too_far = False
    for offset, form, name in needs:
        if not _has_form(form, words[offset // 4]):
            raise LinkError(index, "form")
        word = _changed(form, words[offset // 4], address + offset, exported[name])
        if word is None:
            too_far = True
        else:
            words[offset // 4] = word
    # "form" of any need of the part is told ahead of "range".
    if too_far:
        raise LinkError(index, "range")
    return words


def _has_form(form, word):
    if form == "word":
        return True
    instruction = decode(word)
    return instruction is not None and instruction[0] in OPS_OF_FORMS[form]


def _changed(form, word, place, address):
    """The word at a place with the address of a symbol in it, or None if it is too far."""
    if form == "word":
        return address
    instruction = decode(word)
    if form == "jal":
        distance = (address - place) // 4
        return encode((*instruction[:-1], distance)) if is_operand("j", distance) else None
    high = ((address + HALF_OF_LOW) & MASK) >> 14
    if form == "high":
        return encode((*instruction[:-1], high))
    low = ((address + HALF_OF_LOW) & (2 * HALF_OF_LOW - 1)) - HALF_OF_LOW
    return encode((*instruction[:-1], low))
