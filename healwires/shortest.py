"""The least numbers of events to the end of a turn, and to a right handing out, for what is known to be contents.

Copies are told by what they are to the sender: new ones, old ones of its bit, other ones.
"""

from healwires.worst import in_lot


def copies_of(contents):
    """How many new copies lie in the wire there, how many old ones of the sender's bit, how many other ones."""
    new, zeros, ones = contents[2]
    return (new, ones, zeros) if contents[0][0] == 1 else (new, zeros, ones)


def wanted_answers(link, contents):
    """How many answers the sender has to hear yet, and how many of these do not lie in the wire back."""
    bit, heard = contents[0]
    need = link[3] - heard
    return (need, need - contents[3][bit])


def is_full(link, contents):
    """Whether the wire there is full."""
    return sum(contents[2]) == link[0]


def blocked_answers(link, contents):
    """1 if the wire back is full of answers of the other bit, one of which has to go, otherwise 0."""
    return 1 if contents[3][1 - contents[0][0]] == link[1] else 0


def least_to_end(link, contents):
    """The least number of events by the last of which a turn ends."""
    need, lack = wanted_answers(link, contents)
    if lack <= 0:
        return need
    ahead = need + lack + blocked_answers(link, contents)
    new, own, other = copies_of(contents)
    if contents[0][0] == contents[1][0]:
        # One of the other copies has to go if there are none else and no room.
        return ahead + max(0, lack - new - own) + (1 if other == link[0] else 0)
    # The copy that completes a lot brings the first answer.
    return ahead - 1 + min(by_new(link, contents, lack - 1), by_old(link, contents, lack - 1))


def by_new(link, contents, lack):
    """The least number of events, but hearings, by which a new lot is handed out, and more answers come: so many.

    Bringings that bring these answers do not count here, as they are the same whatever is handed out.
    """
    new, own, other = copies_of(contents)
    wanted = link[2] - in_lot(contents, "new")
    taken = min(new, wanted)
    dropped = 0
    if own + other == link[0]:
        # There is no new copy, and no room for one.
        dropped = 1
        own -= 1 if other == 0 else 0
    return 2 * wanted - taken + dropped + max(0, lack - (new - taken) - own)


def by_old(link, contents, lack):
    """As by_new, for an old lot of copies that bear the sender's bit; by_new if there are not so many."""
    new, own, _ = copies_of(contents)
    wanted = link[2] - in_lot(contents, "old")
    if own < wanted:
        return by_new(link, contents, lack)
    return wanted + max(0, lack - new - (own - wanted))


def least_to_right(link, contents):
    """The least number of events by the last of which a lot of new copies is handed out while it is not done."""
    whole, unlike, done = 2 * link[2], contents[0][0] != contents[1][0], contents[1][2]
    new, _, other = copies_of(contents)
    if unlike and not done:
        wanted = link[2] - in_lot(contents, "new")
        return wanted + max(0, wanted - new) + (1 if new == 0 and is_full(link, contents) else 0)
    need, lack = wanted_answers(link, contents)
    if unlike and lack <= 0:
        return need + whole + min(by_made(link, contents), by_next_turn(link, contents))
    # Nothing has to be brought to the end of a turn for which there are answers enough: so the wire stays full.
    least = least_to_end(link, contents) + whole + (1 if lack <= 0 and is_full(link, contents) else 0)
    wanted = link[2] - in_lot(contents, "old")
    if done or other < wanted:
        return least
    return min(least, wanted + whole - min(new, link[2]))


def by_made(link, contents):
    """The least number of events, beside hearings, by which an old lot is made of copies of the bit of a turn ended.

    The bits are unlike, and answers suffice: so the turn ends without handing out, and all copies of its bit, and its
    lot, are old behind it. What lacks is sent ahead of its end.
    """
    new, own, other = copies_of(contents)
    # A lot can go on with new copies, while the old ones lie in the wire.
    kept = in_lot(contents, "new")
    lack = max(0, link[2] - kept - new - own)
    least = link[2] - kept + lack
    if lack > 0 and own + other == link[0]:
        # An old copy has to go; if it would have been of use, one more has to be sent for it.
        least += 1 if other > 0 else 2
    # Or with old ones, while all new ones lie in the wire.
    kept = in_lot(contents, "old")
    lack = max(0, link[2] - kept - new - own)
    if new + lack <= link[0]:
        dropped = max(0, new + lack + other - link[0])
        least = min(least, link[2] - kept + lack + dropped)
    return least


def by_next_turn(link, contents):
    """The least number of events, beside hearings of this turn, by which the next one ends, too, with nothing made."""
    new, own, other = copies_of(contents)
    lack = link[3] - contents[3][1 - contents[0][0]]
    if lack <= 0:
        return link[3] + (1 if is_full(link, contents) else 0)
    return link[3] + lack + max(0, lack - other) + (1 if new + own == link[0] else 0)
