"""What can be seen of contents."""

from healwires.contents import are_counts, is_bit, is_count, is_sender, is_tuple_of, need_contents, need_link
from healwires.errors import InvalidNumber, InvalidView, TooMany
from healwires.looks import MOST_LISTED, all_looking, how_many_look


def is_seen_receiver(link, value):
    """Whether a value is what is seen of a receiver."""
    return is_tuple_of(value, 2) and is_bit(value[0]) and is_count(value[1]) and value[1] < link[2]


def is_view_of(link, value):
    """Whether a value is a view of what is known to be a link."""
    if not is_tuple_of(value, 4):
        return False
    sender, receiver, there, back = value
    if sender is not None and not is_sender(link, sender):
        return False
    if receiver is not None and not is_seen_receiver(link, receiver):
        return False
    if there is not None and not are_counts(there, 2, link[0]):
        return False
    return back is None or are_counts(back, 2, link[1])


def need_view(link, view):
    """Refuse what is no view of what is known to be a link."""
    if not is_view_of(link, view):
        raise InvalidView(view)


def seen_of(contents):
    """The view in which all of contents is seen."""
    sender, (own, lot, _), (new, zeros, ones), back = contents
    there = (zeros + new, ones) if sender[0] == 0 else (zeros, ones + new)
    return (sender, (own, 0 if lot is None else lot[1]), there, back)


def fits_view(contents, view):
    """Whether contents look so."""
    return all([seen is None or seen == told for seen, told in zip(view, seen_of(contents))])


def are_places(value):
    """Whether a value is an ascending list of numbers of places."""
    if not isinstance(value, list) or not all([is_count(place) and place < 4 for place in value]):
        return False
    return all([place < further for place, further in zip(value, value[1:])])


def is_view(link, value):
    """Whether a value is a view of a link."""
    need_link(link)
    return is_view_of(link, value)


def view_of(link, contents):
    """The view in which all of contents is seen."""
    need_contents(link, contents)
    return seen_of(contents)


def covered(link, view, places):
    """The view with nothing seen at some places."""
    need_link(link)
    need_view(link, view)
    if not are_places(places):
        raise InvalidNumber(places)
    return tuple([None if place in places else seen for place, seen in enumerate(view)])


def looks_so(link, contents, view):
    """Whether contents look as a view tells."""
    need_contents(link, contents)
    need_view(link, view)
    return fits_view(contents, view)


def looking_so(link, view):
    """All contents that look as a view tells, in order."""
    need_link(link)
    need_view(link, view)
    many = how_many_look(link, view)
    if many > MOST_LISTED:
        raise TooMany(many)
    return all_looking(link, view)


def how_many_look_so(link, view):
    """How many contents look as a view tells."""
    need_link(link)
    need_view(link, view)
    return how_many_look(link, view)
