"""Links, contents, events and runs as data."""

from healwires.errors import InvalidBit, InvalidContents, InvalidEvent, InvalidLink, InvalidRun, TooMany, Unlike

COPIES = ("new", "zero", "one")
# Python's order, so that what is picked from here is in order, too.
EVENTS = (
    ("bring", "new"), ("bring", "one"), ("bring", "zero"),
    ("drop", "new"), ("drop", "one"), ("drop", "zero"),
    ("hear", 0), ("hear", 1), ("miss", 0), ("miss", 1), ("send",),
)
MOST_EVENTS = 300


def is_whole(value):
    """Whether a value is a whole number: Booleans are none, though Python takes them for integers."""
    return isinstance(value, int) and not isinstance(value, bool)


def is_count(value):
    """Whether a value is a whole number of at least 0."""
    return is_whole(value) and value >= 0


def is_bit(value):
    """Whether a value is a bit."""
    return is_count(value) and value < 2


def is_tuple_of(value, size):
    """Whether a value is a tuple with so many items."""
    return isinstance(value, tuple) and len(value) == size


def is_link(value):
    """Whether a value is a link."""
    return is_tuple_of(value, 4) and all([is_count(number) and number > 0 for number in value])


def is_listed(value, events):
    """Whether a value is one of some events, with a number as its bit."""
    return value in events and (isinstance(value[-1], str) or is_bit(value[-1]))


def is_event(value):
    """Whether a value is an event."""
    return is_listed(value, EVENTS)


def is_run(value):
    """Whether a value is a run, of whatever contents."""
    return is_run_of(value, EVENTS)


def is_run_of(value, events):
    """Whether a value is a list of some events."""
    return isinstance(value, list) and all([is_listed(event, events) for event in value])


def is_far_run(value):
    """Whether a value is a far run, of whatever contents."""
    return is_far_of(value, EVENTS)


def is_far_of(value, events):
    """Whether a value is a far run in which some events may stand."""
    return isinstance(value, list) and all([is_item_of(item, events) for item in value])


def is_item_of(value, events):
    """Whether a value is an item of a far run in which some events may stand."""
    if not is_tuple_of(value, 2):
        return False
    gone_through, many = value
    return is_run_of(gone_through, events) and len(gone_through) > 0 and is_count(many)


def is_contents(link, value):
    """Whether a value is contents of a link."""
    need_link(link)
    return fits_link(link, value)


def fits_link(link, value):
    """Whether a value is contents of what is known to be a link."""
    if not is_tuple_of(value, 4):
        return False
    sender, receiver, there, back = value
    if not is_sender(link, sender) or not is_receiver(link, sender[0], receiver):
        return False
    return are_counts(there, 3, link[0]) and are_counts(back, 2, link[1])


def is_sender(link, value):
    """Whether a value is what a sender keeps."""
    return is_tuple_of(value, 2) and is_bit(value[0]) and is_count(value[1]) and value[1] < link[3]


def is_receiver(link, sent, value):
    """Whether a value is what a receiver keeps while the sender has the bit sent."""
    if not is_tuple_of(value, 3):
        return False
    bit, lot, done = value
    return is_bit(bit) and is_lot(link, bit != sent, lot) and isinstance(done, bool)


def is_lot(link, unlike, value):
    """Whether a value is a lot, or None; unlike tells whether the two bits are, as a lot of new copies wants it."""
    if value is None:
        return True
    if not is_tuple_of(value, 2) or not is_count(value[1]):
        return False
    return (value[0] == "old" or (value[0] == "new" and unlike)) and 0 < value[1] < link[2]


def are_counts(value, size, most):
    """Whether a value is a tuple of so many counts, at most so much together."""
    return is_tuple_of(value, size) and all([is_count(count) for count in value]) and sum(value) <= most


def need_link(link):
    """Refuse what is no link."""
    if not is_link(link):
        raise InvalidLink(link)


def need_contents(link, contents):
    """Refuse what is no link, then what is no contents of it."""
    need_link(link)
    if not fits_link(link, contents):
        raise InvalidContents(contents)


def need_bit(bit):
    """Refuse what is no bit."""
    if not is_bit(bit):
        raise InvalidBit(bit)


def need_event(event):
    """Refuse what is no event."""
    if not is_event(event):
        raise InvalidEvent(event)


def need_sound(link):
    """Refuse a link that is not sound."""
    if not is_sound(link):
        raise Unlike(link)


def is_sound(link):
    """Whether a link takes at least as many equal copies, and answers, as its wires hold."""
    need_link(link)
    return link[2] >= link[0] and link[3] >= link[1]


def empty(link, bit):
    """The contents at the beginning of a turn, with nothing in the wires."""
    need_link(link)
    need_bit(bit)
    return ((bit, 0), (1 - bit, None, False), (0, 0, 0), (0, 0))


def is_even(link, contents):
    """Whether the bits of sender and receiver are alike."""
    need_contents(link, contents)
    return contents[0][0] == contents[1][0]


def old_copies(link, contents, bit):
    """How many old copies in the wire there bear a bit."""
    need_contents(link, contents)
    need_bit(bit)
    return contents[2][1 + bit]


def answers(link, contents, bit):
    """How many answers in the wire back bear a bit."""
    need_contents(link, contents)
    need_bit(bit)
    return contents[3][bit]


def mirrored(link, contents):
    """The contents with all bits turned."""
    need_contents(link, contents)
    (sent, heard), (bit, lot, done), (new, zeros, ones), (nays, yeas) = contents
    return ((1 - sent, heard), (1 - bit, lot, done), (new, ones, zeros), (yeas, nays))


def mirrored_event(event):
    """The event with the bit of its old copy or answer turned."""
    need_event(event)
    if event[0] in ("hear", "miss"):
        return (event[0], 1 - event[1])
    if event[-1] == "zero":
        return (event[0], "one")
    if event[-1] == "one":
        return (event[0], "zero")
    return event


def far_of(run):
    """The far run with the same events, one event in each item, equal neighbours in one."""
    if not is_run(run):
        raise InvalidRun(run)
    far = []
    for event in run:
        if far and far[-1][0] == [event]:
            far[-1] = ([event], far[-1][1] + 1)
        else:
            far.append(([event], 1))
    return far


def spread_out(run):
    """The run that a far run is."""
    if not is_far_run(run):
        raise InvalidRun(run)
    total = sum([len(events) * many for events, many in run])
    if total > MOST_EVENTS:
        raise TooMany(total)
    return [event for events, many in run for _ in range(many) for event in events]
