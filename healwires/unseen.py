"""How much can still go wrong, as far as it can be seen."""

from healwires.contents import need_contents, need_link, need_sound
from healwires.errors import InvalidContents
from healwires.harm import harm_of
from healwires.looks import bits_of, harms_seen
from healwires.views import fits_view, need_view, seen_of
from healwires.ways import EITHER


def lot_for(link, seen, even, worst):
    """The lot with as many old copies as can be, or with as few."""
    if seen is None:
        return ("old", link[2] - 1) if worst and link[2] > 1 else None
    if seen[1] == 0:
        return None
    return ("old" if worst or even else "new", seen[1])


def there_for(link, seen, bits, worst):
    """The wire there with as many old copies of the bit unlike the receiver's as can be, or with as few."""
    sent, own = bits
    if seen is None:
        many = link[0] if worst else 0
        return (0, many, 0) if own == 1 else (0, 0, many)
    if worst or sent == own:
        return (0,) + seen
    return (seen[0], 0, seen[1]) if sent == 0 else (seen[1], seen[0], 0)


def back_for(link, seen, sent, worst):
    """The wire back with as many answers of the sender's bit as can be, or with as few."""
    if seen is not None:
        return seen
    many = link[1] if worst else 0
    return (many, 0) if sent == 0 else (0, many)


def look_with(link, view, bits, done, worst):
    """The contents that look so, with these bits, whose answers and old copies suffice if any do, or only if all do."""
    sender, receiver, there, back = view
    sent, own = bits
    heard = (link[3] - 1 if worst else 0) if sender is None else sender[1]
    lot = lot_for(link, receiver, sent == own, worst)
    return (
        (sent, heard), (own, lot, done), there_for(link, there, bits, worst), back_for(link, back, sent, worst)
    )


def looks_with(link, view, worst):
    """The contents that look so, one for each way of bits and done, that are worst, or best."""
    return [
        look_with(link, view, (sent, own), done, worst)
        for sent in bits_of(view[0]) for own in bits_of(view[1]) for done in EITHER
    ]


def greatest_of(link, view):
    """The greatest harm of contents that look so."""
    return max([harm_of(link, contents) for contents in looks_with(link, view, True)])


def least_of(link, view):
    """The least harm of contents that look so."""
    return min([harm_of(link, contents) for contents in looks_with(link, view, False)])


def need_sound_view(link, view):
    """Refuse what is no link, no view of it, no sound link, in this order."""
    need_link(link)
    need_view(link, view)
    need_sound(link)


def seen_harms(link, view):
    """How many of the contents that look so have the harm 0, 1, 2 and 3."""
    need_sound_view(link, view)
    return harms_seen(link, view)


def least_harm(link, view):
    """The least harm of contents that look so."""
    need_sound_view(link, view)
    return least_of(link, view)


def greatest_harm(link, view):
    """The greatest harm of contents that look so."""
    need_sound_view(link, view)
    return greatest_of(link, view)


def worst_look(link, view):
    """Some contents that look so and have the greatest harm."""
    need_sound_view(link, view)
    greatest = greatest_of(link, view)
    return [contents for contents in looks_with(link, view, True) if harm_of(link, contents) == greatest][0]


def best_look(link, view):
    """Some contents that look so and have the least harm."""
    need_sound_view(link, view)
    least = least_of(link, view)
    return [contents for contents in looks_with(link, view, False) if harm_of(link, contents) == least][0]


def worth_looking(link, contents, view):
    """The places, not seen, for which the greatest harm falls if what contents have there is seen, too."""
    need_contents(link, contents)
    need_view(link, view)
    if not fits_view(contents, view):
        raise InvalidContents(contents)
    need_sound(link)
    greatest, told = greatest_of(link, view), seen_of(contents)
    return [
        place for place in range(4)
        if view[place] is None and greatest_of(link, view[:place] + (told[place],) + view[place + 1:]) < greatest
    ]
