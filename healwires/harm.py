"""How much can still go wrong."""

from healwires.contents import is_count, need_contents, need_link, need_sound
from healwires.errors import InvalidNumber
from healwires.moves import moved, wrong_between
from healwires.steps import events_of, need_possible

# By even, then by done: the harm if neither suffices, if old copies alone do, if answers alone do, if both do.
HARMS = (
    ((0, 2, 2, 2), (1, 1, 1, 1)),
    ((1, 1, 1, 3), (0, 2, 0, 2)),
)


def answers_of(contents):
    """What the sender has heard and the answers of its bit in the wire back, together."""
    bit, heard = contents[0]
    return heard + contents[3][bit]


def old_of(contents):
    """The old copies of the bit unlike the receiver's in the wire there, and an old lot, together."""
    bit, lot, _ = contents[1]
    kept = lot[1] if lot is not None and lot[0] == "old" else 0
    return contents[2][2 - bit] + kept


def signs_of(link, contents):
    """The four signs of what is known to be contents of a link."""
    even = contents[0][0] == contents[1][0]
    return (even, contents[1][2], answers_of(contents) >= link[3], old_of(contents) >= link[2])


def harm_by(even, done, answers_suffice, old_suffice):
    """The harm of all contents of sound links that have these four signs."""
    return HARMS[even][done][2 * answers_suffice + old_suffice]


def harm_of(link, contents):
    """The harm of what is known to be contents of a sound link."""
    even, done, answers_suffice, old_suffice = signs_of(link, contents)
    return harm_by(even, done, answers_suffice, old_suffice)


def keeps(link, contents, event):
    """Whether nothing of the worst is missed by a possible event."""
    later = moved(link, contents, event)
    worth = 0 if wrong_between(contents, event, later) is None else 1
    return harm_of(link, later) + worth == harm_of(link, contents)


def need_sound_contents(link, contents):
    """Refuse what is no link, no contents of it, no sound link, in this order."""
    need_contents(link, contents)
    need_sound(link)


def answers_count(link, contents):
    """What the sender has heard and the answers of its bit in the wire back, together."""
    need_contents(link, contents)
    return answers_of(contents)


def old_count(link, contents):
    """The old copies of the bit unlike the receiver's in the wire there, and an old lot, together."""
    need_contents(link, contents)
    return old_of(contents)


def signs(link, contents):
    """Whether contents are even, whether they are done, whether answers suffice, whether old ones suffice."""
    need_contents(link, contents)
    return signs_of(link, contents)


def harm(link, contents):
    """The greatest number of wrong steps that runs of some contents have."""
    need_sound_contents(link, contents)
    return harm_of(link, contents)


def is_harmless(link, contents):
    """Whether no run of some contents has a wrong step."""
    need_sound_contents(link, contents)
    return harm_of(link, contents) == 0


def harm_behind(link, contents, event):
    """The harm of the contents behind a possible event."""
    need_possible(link, contents, event)
    need_sound(link)
    return harm_of(link, moved(link, contents, event))


def keeping_events(link, contents):
    """The possible events by which nothing of the worst is missed, in order."""
    need_sound_contents(link, contents)
    return [event for event in events_of(link, contents) if keeps(link, contents, event)]


def some_contents(link, many):
    """Some contents with a harm."""
    need_link(link)
    if not is_count(many) or many > 3:
        raise InvalidNumber(many)
    need_sound(link)
    if many < 2:
        return ((0, 0), (1, None, many == 1), (0, 0, 0), (0, 0))
    sender = (0, link[3] - 1)
    if many == 2:
        return (sender, (1, None, False), (0, 0, 0), (1, 0))
    lot = ("old", link[2] - 1) if link[2] > 1 else None
    return (sender, (0, lot, False), (0, 0, 1), (1, 0))
