"""Single steps of a link."""

from healwires.contents import EVENTS, fits_link, is_event, need_contents
from healwires.errors import InvalidContents, InvalidEvent
from healwires.moves import can_happen, has_ended, has_handed, moved, wrong_between


def need_possible(link, contents, event):
    """Refuse what is no link, no contents of it, no event that is possible, in this order."""
    need_contents(link, contents)
    if not is_event(event) or not can_happen(link, contents, event):
        raise InvalidEvent(event)


def events_of(link, contents):
    """The possible events of what is known to be contents, in order."""
    return [event for event in EVENTS if can_happen(link, contents, event)]


def possible_events(link, contents):
    """The possible events, in order."""
    need_contents(link, contents)
    return events_of(link, contents)


def is_possible(link, contents, value):
    """Whether a value is a possible event."""
    need_contents(link, contents)
    return is_event(value) and can_happen(link, contents, value)


def behind(link, contents, event):
    """The contents behind a possible event."""
    need_possible(link, contents, event)
    return moved(link, contents, event)


def wrong_step(link, contents, event):
    """How a possible event is a wrong step, None if it is none."""
    need_possible(link, contents, event)
    return wrong_between(contents, event, moved(link, contents, event))


def leading_to(link, contents, other):
    """The possible events that lead from contents to other ones, in order."""
    need_contents(link, contents)
    if not fits_link(link, other):
        raise InvalidContents(other)
    return [event for event in events_of(link, contents) if moved(link, contents, event) == other]


def ends_turn(link, contents, event):
    """Whether a turn ends by a possible event."""
    need_possible(link, contents, event)
    return has_ended(contents, moved(link, contents, event))


def hands_out(link, contents, event):
    """Whether a lot is handed out by a possible event."""
    need_possible(link, contents, event)
    return has_handed(contents, moved(link, contents, event))
