"""The place of contents in their order, among those of wanted harms, for links and contents that are known to be such.

Contents are taken apart into ten numbers: the sender's bit, what it heard; the receiver's bit, the place of its lot
among those that it can have, done; the counts there; the counts back. How many contents have the same first ones and
a lesser next one is told by binomial coefficients; so each number is found by halving what it may be.
"""

from healwires.ways import EITHER, bare_lots, heard_pair, lots_pair, ways, with_harms

ALL_HARMS = (0, 1, 2, 3)
PARTS = 10


def taken_apart(link, contents):
    """The ten numbers of contents."""
    (sent, heard), (own, lot, done), there, back = contents
    place = 0
    if lot is not None:
        place = lot[1] if lot[0] == "new" else bare_lots(link, sent == own) + lot[1] - 1
    return (sent, heard, own, place, 1 if done else 0) + there + back


def put_together(link, parts):
    """The contents that have ten numbers."""
    bare = bare_lots(link, parts[0] == parts[2])
    lot = None
    if parts[3] > 0:
        lot = ("new", parts[3]) if parts[3] < bare else ("old", parts[3] - bare + 1)
    return ((parts[0], parts[1]), (parts[2], lot, parts[4] == 1), parts[5:8], parts[8:])


def greatest_part(link, parts):
    """The greatest number that can be behind some parts."""
    place = len(parts)
    if place == 1:
        return link[3] - 1
    if place == 3:
        return bare_lots(link, parts[0] == parts[2]) + link[2] - 2
    if place > 7:
        return link[1] - sum(parts[8:])
    return link[0] - sum(parts[5:]) if place > 4 else 1


def needed_copies(link, parts):
    """How many old copies in the wire there suffice beside the lot that parts tell."""
    return link[2] - max(0, parts[3] - bare_lots(link, parts[0] == parts[2]) + 1)


def wire_pair(counts, below, room, size, place, need):
    """The pair of the ways of a wire that has some counts as its first ones, and a next one below a number.

    It suffices if the count at a place is at least what is needed.
    """
    room, size, further = room - sum(counts), size - len(counts), place - len(counts)
    total = ways(size, room) - ways(size, room - below)
    if further < 0:
        return (total if counts[place] >= need else 0, total)
    passed = max(need, below) if further == 0 else need + below
    return (ways(size, room - need) - ways(size, room - passed), total)


def answered_by(link, parts, below):
    """The pair of what the sender heard and of the wire back, with some parts and a lesser next one."""
    if len(parts) > 7:
        return wire_pair(parts[8:], below, link[1], 2, parts[0], link[3] - parts[1])
    first, last = (0, below) if len(parts) == 1 else (parts[1], parts[1] + 1)
    return heard_pair(link, (1, 2, link[1]), first, last)


def kept_by(link, parts, below):
    """The pair of the lot and of the wire there, with three parts or more, and a lesser next one."""
    if len(parts) == 3:
        bare = min(below, bare_lots(link, parts[0] == parts[2]))
        return lots_pair(link, (1, 3, link[0]), bare, 1, 1 + below - bare)
    place, need = 2 - parts[2], needed_copies(link, parts)
    if len(parts) == 4:
        return wire_pair((), link[0] + 1, link[0], 3, place, need)
    if len(parts) < 8:
        return wire_pair(parts[5:], below, link[0], 3, place, need)
    return (1 if parts[5 + place] >= need else 0, 1)


def dones_by(parts, below):
    """What done can be, with some parts and a lesser next one."""
    if len(parts) == 4:
        return EITHER[:below]
    return (parts[4] == 1,) if len(parts) > 4 else EITHER


def ahead(link, wanted, parts, below):
    """How many contents of wanted harms have some parts as their first ones, and a next one below a number."""
    if len(parts) == 0:
        # Mirrored contents have the same harm: so either bit of the sender has as many.
        return below * ahead(link, wanted, (0,), link[3])
    answered = answered_by(link, parts, below)
    if len(parts) > 2:
        kept = kept_by(link, parts, below)
        return with_harms(wanted, parts[0] == parts[2], dones_by(parts, below), answered, kept)
    bits = below if len(parts) == 2 else 2
    return sum([
        with_harms(wanted, parts[0] == own, EITHER, answered, every_lot(link, parts[0], own)) for own in range(bits)
    ])


def every_lot(link, sent, own):
    """The pair of all lots and of the wire there, where sender and receiver have two bits."""
    return lots_pair(link, (1, 3, link[0]), bare_lots(link, sent == own), 1, link[2])


def part_at(link, wanted, parts, number):
    """The next part of the contents of wanted harms, with some first parts, of which so many are ahead."""
    low, high = 0, greatest_part(link, parts) + 1
    while high - low > 1:
        middle = (low + high) // 2
        if ahead(link, wanted, parts, middle) <= number:
            low = middle
        else:
            high = middle
    return low


def numbered(link, wanted, number):
    """The contents of wanted harms of which so many are ahead, None if there are not so many."""
    if number >= ahead(link, wanted, (), 2):
        return None
    parts = ()
    for _ in range(PARTS):
        part = part_at(link, wanted, parts, number)
        number -= ahead(link, wanted, parts, part)
        parts = parts + (part,)
    return put_together(link, parts)


def number_ahead(link, wanted, contents):
    """How many contents of wanted harms are ahead of some contents."""
    parts = taken_apart(link, contents)
    return sum([ahead(link, wanted, parts[:place], part) for place, part in enumerate(parts)])


def next_one(link, wanted, contents):
    """The next contents of wanted harms behind some that are of one of them, None behind the last."""
    return numbered(link, wanted, number_ahead(link, wanted, contents) + 1)
