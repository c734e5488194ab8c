"""How many contents look as a view tells, and which, for links and views that are known to be such."""

from healwires.ways import EITHER, bare_lots, heard_pair, lots_pair, with_harms

NOTHING_SEEN = (None, None, None, None)
MOST_LISTED = 2000


def bits_of(seen):
    """The bits that a sender or a receiver can have."""
    return (0, 1) if seen is None else (seen[0],)


def back_shape(link, seen, sent):
    """The shape of the wire back, where the sender has a bit."""
    return (1, 2, link[1]) if seen is None else (1, 0, seen[sent])


def there_shape(link, seen, sent, own):
    """The shape of the wire there, where sender and receiver have two bits."""
    if seen is None:
        return (1, 3, link[0])
    if sent == own:
        return (seen[sent] + 1, 0, seen[1 - own])
    # Of the copies of the sender's bit any number can be old.
    return (1, 1, seen[sent])


def answered_pair(link, view, sent):
    """The pair of what a sender with this bit can have heard, and of the wire back."""
    shape = back_shape(link, view[3], sent)
    if view[0] is None:
        return heard_pair(link, shape, 0, link[3])
    return heard_pair(link, shape, view[0][1], view[0][1] + 1)


def kept_pair(link, view, sent, own):
    """The pair of the lots that a receiver with this bit can have, and of the wire there."""
    shape = there_shape(link, view[2], sent, own)
    if view[1] is None:
        return lots_pair(link, shape, bare_lots(link, sent == own), 1, link[2])
    many = view[1][1]
    if many == 0:
        return lots_pair(link, shape, 1, 1, 1)
    return lots_pair(link, shape, 0 if sent == own else 1, many, many + 1)


def harms_seen(link, view):
    """How many of the contents that look so have the harm 0, 1, 2 and 3, for a sound link."""
    bits = [(sent, own) for sent in bits_of(view[0]) for own in bits_of(view[1])]
    return [
        sum([
            with_harms((many,), sent == own, EITHER, answered_pair(link, view, sent), kept_pair(link, view, sent, own))
            for sent, own in bits
        ])
        for many in range(4)
    ]


def how_many_look(link, view):
    """How many contents look so."""
    return sum([
        len(EITHER) * answered_pair(link, view, sent)[1] * kept_pair(link, view, sent, own)[1]
        for sent in bits_of(view[0]) for own in bits_of(view[1])
    ])


def heards_of(link, seen):
    """What the sender can have heard."""
    return list(range(link[3])) if seen is None else [seen[1]]


def lots_of(link, seen, even):
    """The lots that the receiver can have, in order."""
    if seen is not None and seen[1] == 0:
        return [None]
    numbers = list(range(1, link[2])) if seen is None else [seen[1]]
    sorts = ["old"] if even else ["new", "old"]
    lots = [(sort, many) for sort in sorts for many in numbers]
    return [None] + lots if seen is None else lots


def receivers_of(link, seen, sent):
    """What a receiver can keep while the sender has a bit, in order."""
    return [
        (own, lot, done) for own in bits_of(seen) for lot in lots_of(link, seen, sent == own) for done in EITHER
    ]


def theres_of(link, seen, sent):
    """What can lie in the wire there while the sender has a bit, in order."""
    if seen is None:
        room = link[0] + 1
        return [
            (new, zeros, ones)
            for new in range(room) for zeros in range(room - new) for ones in range(room - new - zeros)
        ]
    zeros, ones = seen
    if sent == 0:
        return [(new, zeros - new, ones) for new in range(zeros + 1)]
    return [(new, zeros, ones - new) for new in range(ones + 1)]


def backs_of(link, seen):
    """What can lie in the wire back, in order."""
    if seen is not None:
        return [seen]
    return [(zeros, ones) for zeros in range(link[1] + 1) for ones in range(link[1] + 1 - zeros)]


def all_looking(link, view):
    """All contents that look so, in order; for those who know that they are not too many."""
    return [
        ((sent, heard), receiver, there, back)
        for sent in bits_of(view[0])
        for heard in heards_of(link, view[0])
        for receiver in receivers_of(link, view[1], sent)
        for there in theres_of(link, view[2], sent)
        for back in backs_of(link, view[3])
    ]
