"""Odd and even numbers of wrong steps, and events that set free."""

from healwires.contents import fits_link, need_contents, need_sound
from healwires.errors import InvalidContents
from healwires.harm import harm_of, need_sound_contents
from healwires.moves import moved, wrong_between
from healwires.runs import far_told, wrongs_of
from healwires.steps import events_of


def is_odd_of(contents):
    """Whether what is known to be contents is odd."""
    even = contents[0][0] == contents[1][0]
    return even != contents[1][2]


def sets_free(link, contents, event):
    """Whether a possible event takes harm away without being a wrong step."""
    later = moved(link, contents, event)
    return wrong_between(contents, event, later) is None and harm_of(link, later) < harm_of(link, contents)


def is_odd(link, contents):
    """Whether contents are even and not done, or done and not even."""
    need_contents(link, contents)
    return is_odd_of(contents)


def odd_between(link, contents, other):
    """Whether runs that lead from contents to other ones have an odd number of wrong steps."""
    need_contents(link, contents)
    if not fits_link(link, other):
        raise InvalidContents(other)
    return is_odd_of(contents) != is_odd_of(other)


def freeing_events(link, contents):
    """The possible events that set free, in order."""
    need_sound_contents(link, contents)
    return [event for event in events_of(link, contents) if sets_free(link, contents, event)]


def freed(link, contents, far):
    """How many events of a far run set free."""
    later, marks = far_told(link, contents, far)
    need_sound(link)
    # Each wrong step takes 1 off the harm, each event that sets free 2, and nothing else changes it.
    return (harm_of(link, contents) - harm_of(link, later) - len(wrongs_of(marks))) // 2
