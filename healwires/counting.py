"""How many contents a link has, and their numbers in order."""

from healwires.contents import is_count, need_contents, need_link
from healwires.errors import InvalidNumber, TooMany
from healwires.followers import next_one
from healwires.looks import MOST_LISTED, NOTHING_SEEN, all_looking, answered_pair, how_many_look, kept_pair
from healwires.ranks import ALL_HARMS, number_ahead, numbered
from healwires.ways import of_pair


def need_number(number):
    """Refuse what is no count."""
    if not is_count(number):
        raise InvalidNumber(number)


def how_many_contents(link):
    """How many contents a link has."""
    need_link(link)
    return how_many_look(link, NOTHING_SEEN)


def all_contents(link):
    """All contents of a link, in order."""
    need_link(link)
    many = how_many_look(link, NOTHING_SEEN)
    if many > MOST_LISTED:
        raise TooMany(many)
    return all_looking(link, NOTHING_SEEN)


def contents_numbered(link, number):
    """The contents of a link of which so many are ahead, None if there are not so many."""
    need_link(link)
    need_number(number)
    return numbered(link, ALL_HARMS, number)


def number_of_contents(link, contents):
    """How many contents of a link are ahead of some contents."""
    need_contents(link, contents)
    return number_ahead(link, ALL_HARMS, contents)


def next_contents(link, contents):
    """The next contents of a link, None behind the last."""
    need_contents(link, contents)
    return next_one(link, ALL_HARMS, contents)


def how_many_such(link, even, done, enough_answers, enough_old):
    """How many contents are even or not, done or not, with answers that suffice or not, old copies likewise."""
    need_link(link)
    for sign in (even, done, enough_answers, enough_old):
        if not isinstance(sign, bool):
            raise InvalidNumber(sign)
    kept = kept_pair(link, NOTHING_SEEN, 0, 0 if even else 1)
    # Twice, as the sender has either bit; whether the contents are done is told by one Boolean.
    return 2 * of_pair(answered_pair(link, NOTHING_SEEN, 0), enough_answers) * of_pair(kept, enough_old)
