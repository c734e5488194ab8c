"""How little must go wrong."""

from healwires.contents import is_count, is_far_run, need_contents, need_sound
from healwires.errors import InvalidNumber
from healwires.harm import need_sound_contents
from healwires.runs import far_gone, turns_of, wrongs_of
from healwires.worst import to_ended, to_handed


def must_of(contents):
    """The least number of wrong steps of runs of what is known to be contents that go on and on."""
    even = contents[0][0] == contents[1][0]
    return 1 if even != contents[1][2] else 0


def quiet_turn(link, contents):
    """A far run that ends one turn, with no more wrong steps than it must."""
    if contents[0][0] == contents[1][0]:
        return to_ended(link, contents)
    handing = to_handed(link, contents)
    return handing + to_ended(link, far_gone(link, contents, handing)[0])


def need_turns(link, contents, turns):
    """Refuse what is no link, no contents of it, no number of turns, no sound link, in this order."""
    need_contents(link, contents)
    if not is_count(turns):
        raise InvalidNumber(turns)
    need_sound(link)


def must(link, contents):
    """The least number of wrong steps of all far runs of some contents that end two turns, or more."""
    need_sound_contents(link, contents)
    return must_of(contents)


def quiet_run(link, contents, turns):
    """A far run of some contents that ends just so many turns, with no more wrong steps than it must."""
    need_turns(link, contents, turns)
    far = []
    for _ in range(turns):
        part = quiet_turn(link, contents)
        contents = far_gone(link, contents, part)[0]
        far.extend(part)
    return far


def is_quiet_run(link, contents, turns, value):
    """Whether a value is a far run of some contents that ends so many turns, with no more wrong steps than it must."""
    need_turns(link, contents, turns)
    told = far_gone(link, contents, value) if is_far_run(value) else None
    return told is not None and turns_of(told[1]) == turns and len(wrongs_of(told[1])) <= must_of(contents)
