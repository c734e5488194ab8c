"""How little has to be done from outside, so that at most so much can still go wrong."""

from healwires.contents import is_count, is_tuple_of, need_contents, need_link, need_sound
from healwires.errors import InvalidDeed, InvalidNumber
from healwires.harm import answers_of, harm_of, need_sound_contents, old_of
from healwires.moves import moved
from healwires.steps import events_of

# In order.
WORD_LISTS = (
    (), ("clear",), ("clear", "forget"), ("clear", "forget", "turn"), ("clear", "turn"), ("forget",),
    ("forget", "turn"), ("turn",),
)


def lying_there(contents):
    """What can be taken out: old copies of bit 0, of bit 1, answers of bit 0, of bit 1."""
    return contents[2][1:] + contents[3]


def is_mending_of(contents, value):
    """Whether a value is a mending of what is known to be contents."""
    if not is_tuple_of(value, 2) or not isinstance(value[0], list) or tuple(value[0]) not in WORD_LISTS:
        return False
    taking = value[1]
    if not is_tuple_of(taking, 4) or not all([is_count(many) for many in taking]):
        return False
    return all([many <= most for many, most in zip(taking, lying_there(contents))])


def by_words(contents, words):
    """The contents behind some words, nothing taken out."""
    (sent, heard), (own, lot, done), there, back = contents
    if "forget" in words:
        heard = 0
    if "clear" in words or "turn" in words:
        lot = None
    if "turn" in words:
        own = 1 - own
    return ((sent, heard), (own, lot, done), there, back)


def by_taking(contents, taking):
    """The contents behind a taking."""
    sender, receiver, (new, zeros, ones), (nays, yeas) = contents
    return (
        sender, receiver, (new, zeros - taking[0], ones - taking[1]), (nays - taking[2], yeas - taking[3])
    )


def surplus(link, contents):
    """How many answers of the sender's bit have to be taken out so that answers do not suffice, how many old copies."""
    return (max(0, answers_of(contents) - link[3] + 1), max(0, old_of(contents) - link[2] + 1))


def taking_of(contents, copies, answers):
    """The taking of so many old copies and answers of those bits that matter to harm."""
    old = (copies, 0) if contents[1][0] == 1 else (0, copies)
    return old + ((answers, 0) if contents[0][0] == 0 else (0, answers))


def takings_of(link, contents):
    """The cheapest takings behind which answers suffice or do not, as far as can be, old copies likewise; in order."""
    answered, copied = surplus(link, contents)
    return [
        taking_of(contents, copies, answers)
        for copies in ([0, copied] if copied else [0]) for answers in ([0, answered] if answered else [0])
    ]


def mendings_to(link, contents, most):
    """The cheapest mendings by each list of words and to all signs behind which the harm is so much at most, in order.

    Whatever takes out more, or something else, has the same signs behind it, and costs more.
    """
    found = []
    for words in WORD_LISTS:
        changed = by_words(contents, words)
        for taking in takings_of(link, changed):
            if harm_of(link, by_taking(changed, taking)) <= most:
                found.append((list(words), taking))
    return found


def price_of(mending):
    """The cost of what is known to be a mending."""
    return len(mending[0]) + sum(mending[1])


def least_cost(link, contents, most):
    """The least cost of the mendings of what is known to be contents of a sound link."""
    return min([price_of(mending) for mending in mendings_to(link, contents, most)])


def cheapest_of(link, contents, most):
    """The mendings of the least cost of what is known to be contents of a sound link, in order."""
    found = mendings_to(link, contents, most)
    least = min([price_of(mending) for mending in found])
    return [mending for mending in found if price_of(mending) == least]


def need_most(most):
    """Refuse what is no count of what may still go wrong."""
    if not is_count(most):
        raise InvalidNumber(most)


def need_to_mend(link, contents, most):
    """Refuse what is no link, no contents of it, no count of what may go wrong, no sound link, in this order."""
    need_contents(link, contents)
    need_most(most)
    need_sound(link)


def need_mending(link, contents, mending):
    """Refuse what is no link, no contents of it, no mending of them, in this order."""
    need_contents(link, contents)
    if not is_mending_of(contents, mending):
        raise InvalidDeed(mending)


def is_mending(link, contents, value):
    """Whether a value is a mending of some contents."""
    need_contents(link, contents)
    return is_mending_of(contents, value)


def mended(link, contents, mending):
    """The contents behind a mending."""
    need_mending(link, contents, mending)
    return by_taking(by_words(contents, mending[0]), mending[1])


def cost_of(link, contents, mending):
    """The cost of a mending of some contents."""
    need_mending(link, contents, mending)
    return price_of(mending)


def mending_cost(link, contents, most):
    """The least cost of the mendings behind which the harm is so much at most."""
    need_to_mend(link, contents, most)
    return least_cost(link, contents, most)


def greatest_cost(link, most):
    """The greatest cost that a cheapest mending of any contents of a link has."""
    need_link(link)
    need_most(most)
    need_sound(link)
    full_there, full_back = link[2] == link[0], link[3] == link[1] and link[3] > 1
    if most == 0:
        return 2 + (1 if full_there else 0) + (1 if full_back else 0)
    if most == 1:
        return 2 if full_there and full_back else 1
    return 1 if most == 2 else 0


def cheapest_mendings(link, contents, most):
    """All mendings of the least cost behind which the harm is so much at most, in order."""
    need_to_mend(link, contents, most)
    return cheapest_of(link, contents, most)


def is_cheapest(link, contents, most, value):
    """Whether a value is a mending of the least cost behind which the harm is so much at most."""
    need_to_mend(link, contents, most)
    return is_mending_of(contents, value) and value in cheapest_of(link, contents, most)


def dearer_events(link, contents):
    """The possible events behind which it costs more than ahead of them to let nothing go wrong, in order."""
    need_sound_contents(link, contents)
    least = least_cost(link, contents, 0)
    return [event for event in events_of(link, contents) if least_cost(link, moved(link, contents, event), 0) > least]
