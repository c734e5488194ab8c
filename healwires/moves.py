"""What events do, for links, contents and events that are known to be such."""

from healwires.contents import COPIES


def copy_of(bit):
    """The old copy that bears a bit."""
    return COPIES[1 + bit]


def borne_by(contents, copy):
    """The bit that a copy bears."""
    return contents[0][0] if copy == "new" else COPIES.index(copy) - 1


def lying(contents, event):
    """How many copies or answers lie there like the one that an event names; not for sendings."""
    named = event[1]
    return contents[2][COPIES.index(named)] if named in COPIES else contents[3][named]


def can_happen(link, contents, event):
    """Whether an event is possible, also one of wires that double."""
    word = event[0]
    if word in ("send", "double") and sum(contents[2]) == link[0]:
        return False
    if word == "repeat" and sum(contents[3]) == link[1]:
        return False
    return word == "send" or lying(contents, event) > 0


def changed(counts, place, by):
    """Some counts, one of them changed."""
    return counts[:place] + (counts[place] + by,) + counts[place + 1:]


def moved(link, contents, event):
    """The contents behind a possible event, also one of wires that double."""
    word = event[0]
    if word == "bring":
        return brought(link, contents, event[1])
    if word == "hear":
        return answered_by(link, contents, event[1])
    sender, receiver, there, back = contents
    by = 1 if word in ("send", "double", "repeat") else -1
    if word in ("miss", "repeat"):
        return (sender, receiver, there, changed(back, event[1], by))
    copy = "new" if word == "send" else event[1]
    return (sender, receiver, changed(there, COPIES.index(copy), by), back)


def brought(link, contents, copy):
    """The contents behind the bringing of a copy."""
    sender, receiver, there, back = contents
    bit = borne_by(contents, copy)
    there = changed(there, COPIES.index(copy), -1)
    receiver = taken_in(link, receiver, bit, "new" if copy == "new" else "old")
    if receiver[0] == bit and sum(back) < link[1]:
        back = changed(back, bit, 1)
    return (sender, receiver, there, back)


def taken_in(link, receiver, bit, sort):
    """The receiver behind a copy of a bit and a sort."""
    own, lot, done = receiver
    if bit == own:
        return (own, None, done)
    many = lot[1] + 1 if lot is not None and lot[0] == sort else 1
    if many < link[2]:
        return (own, (sort, many), done)
    return (bit, None, done or sort == "new")


def answered_by(link, contents, bit):
    """The contents behind the hearing of an answer of a bit."""
    (own, heard), receiver, there, back = contents
    back = changed(back, bit, -1)
    if bit != own:
        return ((own, heard), receiver, there, back)
    if heard + 1 < link[3]:
        return ((own, heard + 1), receiver, there, back)
    return ((1 - own, 0), begun_anew(receiver), grown_old(there, own), back)


def begun_anew(receiver):
    """The receiver behind the end of a turn."""
    bit, lot, done = receiver
    return (bit, None if lot is None else ("old", lot[1]), False)


def grown_old(there, bit):
    """The wire there behind the end of a turn in which the sender had a bit."""
    return changed((0,) + there[1:], 1 + bit, there[0])


def has_ended(ahead, later):
    """Whether a turn ends by the one event between some contents and later ones."""
    return ahead[0][0] != later[0][0]


def has_handed(ahead, later):
    """Whether a lot is handed out by the one event between some contents and later ones."""
    return ahead[1][0] != later[1][0]


def wrong_between(ahead, event, later):
    """How the one event between some contents and later ones is wrong, None if it is not."""
    done = ahead[1][2]
    if has_ended(ahead, later):
        return None if done else "lost"
    if not has_handed(ahead, later):
        return None
    if event[1] != "new":
        return "made"
    return "twice" if done else None
