"""What runs can still do wrong, kind by kind."""

from healwires.contents import is_far_run, need_contents, need_sound
from healwires.endless import often
from healwires.errors import InvalidEvent
from healwires.harm import need_sound_contents, signs_of
from healwires.moves import moved, wrong_between
from healwires.runs import far_gone, wrongs_of
from healwires.steps import need_possible
from healwires.worst import in_lot, making_room, once, to_ended, to_handed, to_made

KINDS = ("lost", "made", "twice")
# By even and done, the fates of which all others are beginnings: those that there always are, those that there are if
# answers suffice, if old copies suffice, if both do.
WHOLES = {
    (False, False): ((), (("lost", "lost"), ("lost", "made")), (("made", "lost"),), ()),
    (True, True): ((), (), (("made", "twice"),), (("made", "lost"), ("made", "made"))),
    (False, True): ((("twice",),), (("lost",), ("made",)), (("made",),), ()),
    (True, False): (
        (("lost",),), (), (("made",),),
        (("lost", "made", "lost"), ("made", "lost", "lost"), ("made", "lost", "made")),
    ),
}


def wholes_of(link, contents):
    """Fates of what is known to be contents of a sound link, of which all others are beginnings."""
    even, done, answers_suffice, old_suffice = signs_of(link, contents)
    always, by_answers, by_old, by_both = WHOLES[(even, done)]
    found = always
    if answers_suffice:
        found = found + by_answers
    if old_suffice:
        found = found + by_old
    if answers_suffice and old_suffice:
        found = found + by_both
    return found


def fates_of(link, contents):
    """The fates of what is known to be contents of a sound link, in order, each once."""
    found = [[]]
    for whole in wholes_of(link, contents):
        for many in range(1, len(whole) + 1):
            begun = list(whole[:many])
            if begun not in found:
                found.append(begun)
    return sorted(found)


def lot_kept(link, contents):
    """The far run behind which, once the turn has ended, old copies suffice; for bits that are unlike.

    A lot that lacks one copy is old when the turn has ended, and so is one copy more in the wire.
    """
    bringing = often([("send",), ("bring", "new")], link[2] - 1 - in_lot(contents, "new"))
    return once(making_room(link, contents)) + bringing + [([("send",)], 1)]


def next_part(link, contents, fate):
    """A far run with the first wrong step of a fate at most, as its last event, behind which the rest can come."""
    _, _, answers_suffice, old_suffice = signs_of(link, contents)
    if fate[0] == "twice":
        return to_handed(link, contents)
    if fate[0] == "made" and old_suffice:
        return to_made(link, contents)
    if not answers_suffice:
        return to_ended(link, contents)
    bit, heard = contents[0]
    ahead = lot_kept(link, contents) if "made" in fate and not old_suffice else []
    return ahead + [([("hear", bit)], link[3] - heard)]


def run_to(link, contents, fate):
    """A far run of what is known to be contents of a sound link, whose wrong steps are just a fate of theirs."""
    far = []
    while fate:
        part = next_part(link, contents, fate)
        contents, marks = far_gone(link, contents, part)
        far.extend(part)
        fate = fate[len(wrongs_of(marks)):]
    return far


def fates(link, contents):
    """All fates of some contents, in order, each once."""
    need_sound_contents(link, contents)
    return fates_of(link, contents)


def is_fate(link, contents, value):
    """Whether a value is a fate of some contents."""
    need_sound_contents(link, contents)
    return value in fates_of(link, contents)


def firsts(link, contents):
    """The kinds that a fate of some contents begins with, in order, each once."""
    need_sound_contents(link, contents)
    begun = fates_of(link, contents)
    return [kind for kind in KINDS if [kind] in begun]


def most_of(link, contents, kind):
    """The greatest number of a kind in a fate of some contents."""
    need_contents(link, contents)
    if kind not in KINDS:
        raise InvalidEvent(kind)
    need_sound(link)
    return max([fate.count(kind) for fate in fates_of(link, contents)])


def fates_behind(link, contents, event):
    """The fates of some contents that begin with what a possible event does, in order, each once."""
    need_possible(link, contents, event)
    need_sound(link)
    later = moved(link, contents, event)
    wrong = wrong_between(contents, event, later)
    ahead = [] if wrong is None else [wrong]
    return [ahead + fate for fate in fates_of(link, later)]


def fate_run(link, contents, fate):
    """A far run whose wrong steps are just a fate of some contents, None if it is no fate of them."""
    need_sound_contents(link, contents)
    return run_to(link, contents, fate) if fate in fates_of(link, contents) else None


def is_fate_run(link, contents, fate, value):
    """Whether a value is a far run of some contents whose wrong steps are just a fate of theirs."""
    need_sound_contents(link, contents)
    if fate not in fates_of(link, contents):
        return False
    told = far_gone(link, contents, value) if is_far_run(value) else None
    return told is not None and wrongs_of(told[1]) == fate
