"""Runs by which a turn ends, or a letter is handed out rightly, as soon as can be."""

from healwires.contents import MOST_EVENTS, is_run, need_contents
from healwires.errors import TooMany
from healwires.moves import can_happen, has_ended, has_handed, moved
from healwires.shortest import least_to_end, least_to_right
from healwires.steps import events_of


def ends(ahead, event, later):
    """Whether a turn ends by an event between some contents and later ones."""
    return has_ended(ahead, later)


def hands_rightly(ahead, event, later):
    """Whether a letter is handed out rightly by an event between some contents and later ones."""
    return has_handed(ahead, later) and event[1] == "new" and not ahead[1][2]


def first_run(link, contents, least_of, is_last):
    """The first, in order, of the shortest runs to an event, by the functions that tell their least number and it."""
    least = least_of(link, contents)
    if least > MOST_EVENTS:
        raise TooMany(least)
    run = []
    while least > 0:
        least -= 1
        for event in events_of(link, contents):
            later = moved(link, contents, event)
            # Behind the last event the least number is that to the next such event, so it tells nothing.
            belongs = is_last(contents, event, later) if least == 0 else least_of(link, later) == least
            if belongs:
                break
        run.append(event)
        contents = later
    return run


def is_shortest(link, contents, value, least_of, is_last):
    """Whether a value is one of the shortest runs to an event, by the functions that tell their least number and it."""
    if not is_run(value) or len(value) != least_of(link, contents):
        return False
    come = False
    for event in value:
        if come or not can_happen(link, contents, event):
            return False
        later = moved(link, contents, event)
        come = is_last(contents, event, later)
        contents = later
    return come


def least_turn(link, contents):
    """The least number of events of a run of some contents whose last event ends a turn."""
    need_contents(link, contents)
    return least_to_end(link, contents)


def least_right(link, contents):
    """The least number of events of a run of some contents whose last event hands a letter out rightly."""
    need_contents(link, contents)
    return least_to_right(link, contents)


def turn_run(link, contents):
    """The first, in order, of the shortest runs whose last event ends a turn."""
    need_contents(link, contents)
    return first_run(link, contents, least_to_end, ends)


def right_run(link, contents):
    """The first, in order, of the shortest runs whose last event hands a letter out rightly."""
    need_contents(link, contents)
    return first_run(link, contents, least_to_right, hands_rightly)


def is_turn_run(link, contents, value):
    """Whether a value is one of the shortest runs whose last event ends a turn."""
    need_contents(link, contents)
    return is_shortest(link, contents, value, least_to_end, ends)


def is_right_run(link, contents, value):
    """Whether a value is one of the shortest runs whose last event hands a letter out rightly."""
    need_contents(link, contents)
    return is_shortest(link, contents, value, least_to_right, hands_rightly)
