"""How many contents have which harm."""

from healwires.contents import is_count, need_contents, need_link, need_sound
from healwires.counting import need_number
from healwires.errors import InvalidNumber
from healwires.followers import next_one
from healwires.harm import harm_of, need_sound_contents
from healwires.looks import NOTHING_SEEN, harms_seen
from healwires.ranks import number_ahead, numbered
from healwires.ways import in_lowest_terms


def need_harm(many):
    """Refuse what is no harm that contents can have."""
    if not is_count(many) or many > 3:
        raise InvalidNumber(many)


def of_harms(link):
    """The numbers of contents with harm 0, 1, 2 and 3."""
    need_link(link)
    need_sound(link)
    return harms_seen(link, NOTHING_SEEN)


def share_of(link, many):
    """The share of all contents that have a harm, as a tuple in lowest terms."""
    need_link(link)
    need_harm(many)
    need_sound(link)
    counts = harms_seen(link, NOTHING_SEEN)
    return in_lowest_terms(counts[many], sum(counts))


def other_done(link, contents):
    """The contents with done the other way."""
    need_contents(link, contents)
    sender, (own, lot, done), there, back = contents
    return (sender, (own, lot, not done), there, back)


def of_harm_numbered(link, many, number):
    """The contents with a harm of which so many are ahead, None if there are not so many."""
    need_link(link)
    need_harm(many)
    need_number(number)
    need_sound(link)
    return numbered(link, (many,), number)


def number_of_its_harm(link, contents):
    """How many contents with the same harm are ahead of some contents."""
    need_sound_contents(link, contents)
    return number_ahead(link, (harm_of(link, contents),), contents)


def next_of_harm(link, contents):
    """The next contents with the same harm, None behind the last."""
    need_sound_contents(link, contents)
    return next_one(link, (harm_of(link, contents),), contents)


def weight_of(link, contents):
    """The sum of what the sender heard, of the number of the lot, and of all that lies in the wires."""
    need_contents(link, contents)
    (_, heard), (_, lot, _), there, back = contents
    return heard + (0 if lot is None else lot[1]) + sum(there) + sum(back)


def least_weights(link):
    """The least weights of contents with harm 0, 1, 2 and 3."""
    need_link(link)
    need_sound(link)
    return [0, 0, min(link[2:]), link[2] + link[3]]


def mean_harm(link):
    """The sum of all harms over the number of contents, as a tuple in lowest terms."""
    need_link(link)
    need_sound(link)
    counts = harms_seen(link, NOTHING_SEEN)
    return in_lowest_terms(sum([harm * many for harm, many in enumerate(counts)]), sum(counts))
