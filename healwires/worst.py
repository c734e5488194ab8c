"""Runs in which as much goes wrong as can."""

from healwires.contents import COPIES, is_far_run, need_contents, need_event, need_sound
from healwires.harm import harm_of, keeps, need_sound_contents, signs_of
from healwires.moves import can_happen, copy_of, moved
from healwires.runs import far_gone, wrongs_of


def next_wrong(link, contents):
    """A far run to the next wrong step by which nothing of the worst is missed, of contents that are not harmless."""
    even, done, answers_suffice, _ = signs_of(link, contents)
    if done and not even:
        return to_handed(link, contents)
    # Answers that suffice come first: what is brought ahead of them would set them, or the old copies, aside.
    if not done and answers_suffice:
        bit, heard = contents[0]
        return [([("hear", bit)], link[3] - heard)]
    if even and not done:
        return to_ended(link, contents)
    return to_made(link, contents)


def in_lot(contents, sort):
    """How many copies of a sort are in the receiver's lot."""
    lot = contents[1][1]
    return lot[1] if lot is not None and lot[0] == sort else 0


def to_made(link, contents):
    """The handing out of an old lot, where old ones suffice."""
    bring = ("bring", copy_of(1 - contents[1][0]))
    return [([bring], link[2] - in_lot(contents, "old"))]


def to_handed(link, contents):
    """The handing out of a new lot, where the bits are unlike."""
    many = link[2] - in_lot(contents, "new")
    return once(making_room(link, contents)) + [([("send",), ("bring", "new")], many)]


def to_ended(link, contents):
    """The end of a turn by new copies, where the bits are alike."""
    bit, heard = contents[0]
    ahead = making_room(link, contents)
    # An answer of the bit could not be put into a wire that is full of other ones.
    if contents[3][1 - bit] == link[1]:
        ahead.append(("miss", 1 - bit))
    return once(ahead) + [([("send",), ("bring", "new"), ("hear", bit)], link[3] - heard)]


def making_room(link, contents):
    """The events, at most one, behind which the wire there has room."""
    if sum(contents[2]) < link[0]:
        return []
    return [("drop", [copy for copy, many in zip(COPIES, contents[2]) if many > 0][0])]


def once(events):
    """The far run of some events, perhaps none, once."""
    return [(events, 1)] if events else []


def worst_of(link, contents):
    """A worst run of what is known to be contents of a sound link."""
    far = []
    while harm_of(link, contents) > 0:
        part = next_wrong(link, contents)
        far.extend(part)
        contents = far_gone(link, contents, part)[0]
    return far


def begins_worst(link, contents, event):
    """Whether some worst run begins with what is known to be an event."""
    return can_happen(link, contents, event) and harm_of(link, contents) > 0 and keeps(link, contents, event)


def need_all(link, contents, event):
    """Refuse what is no link, no contents of it, no event, no sound link, in this order."""
    need_contents(link, contents)
    need_event(event)
    need_sound(link)


def first_wrong(link, contents):
    """A far run to the next wrong step, behind which the harm is one less; None if contents are harmless."""
    need_sound_contents(link, contents)
    return next_wrong(link, contents) if harm_of(link, contents) > 0 else None


def worst_run(link, contents):
    """A worst run of some contents."""
    need_sound_contents(link, contents)
    return worst_of(link, contents)


def is_worst_run(link, contents, value):
    """Whether a value is a far run of some contents with as many wrong steps as their harm."""
    need_sound_contents(link, contents)
    told = far_gone(link, contents, value) if is_far_run(value) else None
    return told is not None and len(wrongs_of(told[1])) == harm_of(link, contents)


def is_worst_event(link, contents, event):
    """Whether some worst run begins with an event."""
    need_all(link, contents, event)
    return begins_worst(link, contents, event)


def worst_by(link, contents, event):
    """A worst run that begins with an event, None if there is none."""
    need_all(link, contents, event)
    if not begins_worst(link, contents, event):
        return None
    return [([event], 1)] + worst_of(link, moved(link, contents, event))
