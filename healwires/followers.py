"""The next contents of wanted harms, for links and contents that are known to be such.

Nothing is counted: a part is taken on to the least number with which some contents of a wanted harm begin. This is the
next number, or the one from which on what is there can suffice.
"""

from healwires.harm import harm_by
from healwires.ranks import put_together, taken_apart
from healwires.ways import EITHER, bare_lots

PARTS = 10


def greatest_part(link, parts):
    """The greatest number that can be behind some parts."""
    place = len(parts)
    if place == 1:
        return link[3] - 1
    if place == 3:
        return bare_lots(link, parts[0] == parts[2]) + link[2] - 2
    if place > 7:
        return link[1] - sum(parts[8:])
    return link[0] - sum(parts[5:]) if place > 4 else 1


def needed_copies(link, parts):
    """How many old copies in the wire there suffice beside the lot that parts tell."""
    return link[2] - max(0, parts[3] - bare_lots(link, parts[0] == parts[2]) + 1)


def turning_part(link, parts):
    """The number behind some parts from which on something can suffice that can't below it; 1 of two ones."""
    place = len(parts)
    if place == 1:
        return link[3] - link[1]
    if place == 3:
        return bare_lots(link, parts[0] == parts[2]) + link[2] - link[0] - 1
    if place > 7:
        return link[3] - parts[1]
    return needed_copies(link, parts) if place > 4 else 1


def can_suffice(counts, place, room, need):
    """For counts of a wire that are known so far: whether it can suffice, or not, by the one at a place."""
    if place < len(counts):
        return (counts[place] >= need,)
    return EITHER if room - sum(counts) >= need else (False,)


def can_be(link, wanted, parts):
    """Whether some contents of a wanted harm begin with some parts."""
    place = len(parts)
    answers = can_suffice(parts[8:], parts[0], link[1], link[3] - parts[1]) if place > 1 else EITHER
    evens = (parts[0] == parts[2],) if place > 2 else EITHER
    old = can_suffice(parts[5:8], 2 - parts[2], link[0], needed_copies(link, parts)) if place > 3 else EITHER
    dones = (parts[4] == 1,) if place > 4 else EITHER
    for even in evens:
        for done in dones:
            for enough_answers in answers:
                for enough_old in old:
                    if harm_by(even, done, enough_answers, enough_old) in wanted:
                        return True
    return False


def least_part(link, wanted, parts, least):
    """The least number behind some parts, at least so much, with which contents of a wanted harm go on; or None."""
    most = greatest_part(link, parts)
    for part in (least, max(least + 1, turning_part(link, parts))):
        if part <= most and can_be(link, wanted, parts + (part,)):
            return part
    return None


def next_one(link, wanted, contents):
    """The next contents of wanted harms behind some that are of one of them, None behind the last."""
    parts = taken_apart(link, contents)
    for place in reversed(range(PARTS)):
        part = least_part(link, wanted, parts[:place], parts[place] + 1)
        if part is not None:
            found = parts[:place] + (part,)
            while len(found) < PARTS:
                found = found + (least_part(link, wanted, found, 0),)
            return put_together(link, found)
    return None
