"""The place of contents in their order, among those of wanted harms, for links and contents that are known to be such.

Contents are taken apart into ten numbers: the sender's bit, what it heard; the receiver's bit, the place of its lot
among those that it can have, done; the counts there; the counts back. How many contents have the same first ones and
a lesser next one is told by binomial coefficients, from two weights (rest, enough): with how many ways of all else a
way of what is counted makes contents of a wanted harm, if it does not suffice, and if it does.
"""

from healwires.halving import part_within
from healwires.harm import HARMS
from healwires.ways import EITHER, bare_lots, heard_pair, lots_pair, ways

ALL_HARMS = (0, 1, 2, 3)


def taken_apart(link, contents):
    """The ten numbers of contents."""
    (sent, heard), (own, lot, done), there, back = contents
    place = 0
    if lot is not None:
        place = lot[1] if lot[0] == "new" else bare_lots(link, sent == own) + lot[1] - 1
    return (sent, heard, own, place, 1 if done else 0) + there + back


def put_together(link, parts):
    """The contents that have ten numbers."""
    bare = bare_lots(link, parts[0] == parts[2])
    lot = None
    if parts[3] > 0:
        lot = ("new", parts[3]) if parts[3] < bare else ("old", parts[3] - bare + 1)
    return ((parts[0], parts[1]), (parts[2], lot, parts[4] == 1), parts[5:8], parts[8:])


class Finder:
    """Finds the parts of the contents of which so many are ahead."""

    def __init__(self, number):
        self.number = number

    def part(self, most, bend, count):
        """The next part, at most so much, where count tells how many contents have a lesser one."""
        found = part_within(count, most, bend, self.number) if most > 0 else 0
        if found > 0:
            self.number -= count(found)
        return found


class Counter:
    """Counts how many contents are ahead of those with known parts."""

    def __init__(self, parts):
        self.parts = parts
        self.place = 0
        self.number = 0

    def part(self, most, bend, count):
        """The next part, at most so much, where count tells how many contents have a lesser one."""
        known = self.parts[self.place]
        self.place += 1
        if known > 0:
            self.number += count(known)
        return known


def chances_by(wanted):
    """Which harms are wanted, in the place of those that HARMS tells."""
    return [[[many in wanted for many in row] for row in rows] for rows in HARMS]


def split(pair):
    """How many ways of a pair do not suffice, how many do."""
    return (pair[1] - pair[0], pair[0])


def by_answers(row, kept):
    """The weights of answers, by how many of the lots, and of the wire there, suffice or not."""
    return (row[0] * kept[0] + row[1] * kept[1], row[2] * kept[0] + row[3] * kept[1])


def by_old(row, answered):
    """The weights of old copies, by how much of what the sender heard, and of the wire back, suffices or not."""
    return (row[0] * answered[0] + row[2] * answered[1], row[1] * answered[0] + row[3] * answered[1])


def added(rows):
    """The sums of the numbers of two rows."""
    return [one + other for one, other in zip(rows[0], rows[1])]


def weighed(weights, parts):
    """How many contents there are with so many ways that do not suffice, and so many that do."""
    return weights[0] * parts[0] + weights[1] * parts[1]


def kept_at(link, need):
    """How many ways of the wire there do not suffice, how many do, where so many old copies are needed."""
    enough = ways(3, link[0] - need)
    return (ways(3, link[0]) - enough, enough)


def heard_count(link, weights):
    """The function that tells how many contents with one bit of the sender there are that heard less than a number."""
    each, more = weights[0] * ways(2, link[1]), weights[1] - weights[0]
    first = link[1] - link[3] - 1
    short = ways(3, first)
    return lambda heard: each * heard + more * (ways(3, first + heard) - short)


def lot_count(link, bare, weights):
    """The function that tells how many contents with three parts there are with a lot ahead of a place.

    Lots that are not old, or none, come first; ahead of each old one there are all old ones of lesser numbers.
    """
    each, more = weights[0] * ways(3, link[0]), weights[1] - weights[0]
    first = link[0] - link[2]
    alone, short = ways(3, first), ways(4, first)
    return lambda place: each * place + more * (
        min(bare, place) * alone + ways(4, first + max(0, place - bare)) - short)


def wire_count(size, room, further, need, weights):
    """The function that tells how many contents there are with a count below a number, and the others as they can be.

    So many counts of a wire are yet to come, this one first; they suffice if the one that is so much further on is at
    least what is needed.
    """
    rest, more = weights[0], weights[1] - weights[0]
    total, enough = ways(size, room), ways(size, room - need)
    if more == 0:
        return lambda below: rest * (total - ways(size, room - below))
    if further == 0:
        return lambda below: (
            rest * (total - ways(size, room - below)) + more * (enough - ways(size, room - max(need, below)))
        )
    return lambda below: (
        rest * (total - ways(size, room - below)) + more * (enough - ways(size, room - need - below))
    )


def wire_parts(chooser, shape, need, weights):
    """The counts of a wire of a shape (size, room, place), which suffices if that at the place is what is needed."""
    size, room, place = shape
    parts = ()
    for at in range(size):
        bend = need if at == place else room - need + 1
        part = chooser.part(room, bend, wire_count(size - at, room, place - at, need, weights))
        if at == place:
            weight = weights[1] if part >= need else weights[0]
            weights = (weight, weight)
        room -= part
        parts = parts + (part,)
    return parts


def halves_of(link, chances):
    """The weights of answers with bits that are unlike, and alike, for either bit of the sender."""
    found = []
    for even in EITHER:
        kept = split(lots_pair(link, (1, 3, link[0]), bare_lots(link, even), 1, link[2]))
        found.append(by_answers(added(chances[even]), kept))
    return found


def parts_by(link, wanted, chooser):
    """The ten numbers of contents of wanted harms, as a chooser tells them; None if there are fewer than it wants."""
    c, d, p, q = link
    chances = chances_by(wanted)
    halves = halves_of(link, chances)
    by_heard = heard_count(link, added(halves))
    half = by_heard(q)
    sent = chooser.part(2, 0, lambda below: below * half)
    if sent == 2:
        return None
    heard = chooser.part(q - 1, q - d, by_heard)
    answered = split(heard_pair(link, (1, 2, d), heard, heard + 1))
    # Bits that are alike are those of a receiver with 0 beside a sender with 0.
    with_zero = weighed(halves[1 - sent], answered)
    own = chooser.part(1, 0, lambda below: below * with_zero)
    even = sent == own
    rows = chances[even]
    bare = bare_lots(link, even)
    by_lot = lot_count(link, bare, by_old(added(rows), answered))
    place = chooser.part(bare + p - 2, bare + p - c - 1, by_lot)
    need = p - max(0, place - bare + 1)
    with_undone = weighed(by_old(rows[0], answered), kept_at(link, need))
    done = chooser.part(1, 0, lambda below: below * with_undone)
    row = rows[done]
    there = wire_parts(chooser, (3, c, 2 - own), need, by_old(row, answered))
    old = 1 if there[2 - own] >= need else 0
    back = wire_parts(chooser, (2, d, sent), q - heard, (row[old], row[2 + old]))
    return (sent, heard, own, place, done) + there + back


def numbered(link, wanted, number):
    """The contents of wanted harms of which so many are ahead, None if there are not so many."""
    parts = parts_by(link, wanted, Finder(number))
    return None if parts is None else put_together(link, parts)


def number_ahead(link, wanted, contents):
    """How many contents of wanted harms are ahead of some contents."""
    counter = Counter(taken_apart(link, contents))
    parts_by(link, wanted, counter)
    return counter.number
