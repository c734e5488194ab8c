"""What two turns settle, and what a link costs that settles it."""

from healwires.contents import fits_link, is_count, is_far_run, need_contents, need_link, need_sound
from healwires.counting import need_number
from healwires.errors import InvalidNumber
from healwires.harm import harm_of, need_sound_contents, signs_of
from healwires.quiet import quiet_turn
from healwires.rates import cost_of_turn
from healwires.runs import far_gone, turns_of, wrongs_of
from healwires.worst import worst_of


def turns_to_settle(link, contents):
    """The least number of turns behind which what is known to be contents of a sound link is harmless."""
    if harm_of(link, contents) == 0:
        return 0
    even, _, answers_suffice, old_suffice = signs_of(link, contents)
    return 2 if answers_suffice and (not even or old_suffice) else 1


def wrongs_in_two(link, contents):
    """The numbers of wrong steps of far runs that end two turns or more, ascending."""
    many = harm_of(link, contents)
    return [many - 2, many] if many > 1 else [many]


def need_wrongs(link, contents, many):
    """Refuse what is no link, no contents of it, no count, no sound link, in this order."""
    need_contents(link, contents)
    need_number(many)
    need_sound(link)


def need_places(number):
    """Refuse what is no whole number of at least 1."""
    if not is_count(number) or number < 1:
        raise InvalidNumber(number)


def settled_by(link, contents):
    """The least number of turns such that all runs that end so many lead to harmless contents."""
    need_sound_contents(link, contents)
    return turns_to_settle(link, contents)


def unsettled_run(link, contents):
    """A far run that ends one turn less, behind which contents are not harmless; None if they are at first."""
    need_sound_contents(link, contents)
    turns = turns_to_settle(link, contents)
    if turns == 0:
        return None
    bit, heard = contents[0]
    return [([("hear", bit)], link[3] - heard)] if turns == 2 else []


def is_unsettled_run(link, contents, value):
    """Whether a value is a far run that ends one turn less, behind which contents are not harmless."""
    need_sound_contents(link, contents)
    told = far_gone(link, contents, value) if is_far_run(value) else None
    if told is None or turns_of(told[1]) != turns_to_settle(link, contents) - 1:
        return False
    return harm_of(link, told[0]) > 0


def two_turn_wrongs(link, contents):
    """The numbers of wrong steps that far runs have which end two turns or more, ascending."""
    need_sound_contents(link, contents)
    return wrongs_in_two(link, contents)


def two_turn_run(link, contents, many):
    """A far run that ends just two turns, with so many wrong steps; None if there is none."""
    need_wrongs(link, contents, many)
    if many not in wrongs_in_two(link, contents):
        return None
    # By the worst as much goes wrong as can, and nothing behind it; by quiet turns no more than must.
    far = worst_of(link, contents) if many == harm_of(link, contents) else []
    contents, marks = far_gone(link, contents, far)
    for _ in range(2 - turns_of(marks)):
        part = quiet_turn(link, contents)
        contents = far_gone(link, contents, part)[0]
        far.extend(part)
    return far


def is_two_turn_run(link, contents, many, value):
    """Whether a value is a far run that ends just two turns, with so many wrong steps."""
    need_wrongs(link, contents, many)
    told = far_gone(link, contents, value) if is_far_run(value) else None
    return told is not None and turns_of(told[1]) == 2 and len(wrongs_of(told[1])) == many


def lies_in(link, contents, other):
    """Whether contents of a link are contents of another link, too."""
    need_contents(link, contents)
    need_link(other)
    return fits_link(other, contents)


def cheapest_sound(places, back):
    """The sound link of wires of so many places with which a turn costs least."""
    need_places(places)
    need_places(back)
    return (places, back, places, back)


def price(places, back):
    """What a turn costs with the cheapest sound link of wires of so many places."""
    return cost_of_turn(cheapest_sound(places, back))
