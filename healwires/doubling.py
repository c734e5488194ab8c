"""What goes wrong for ever on wires that double what they carry."""

from healwires.contents import EVENTS, is_far_of, is_listed, is_tuple_of, need_contents
from healwires.endless import answered, goes_on, often, right_turn, sent_over, to_empty
from healwires.errors import InvalidEvent
from healwires.moves import can_happen, copy_of, moved

DOUBLINGS = (("double", "new"), ("double", "one"), ("double", "zero"), ("repeat", 0), ("repeat", 1))


def lap_of_a_copy(link, bit):
    """A round from empty wires with an old lot made and a letter handed out twice, where two copies have room.

    One copy is kept for a turn, and doubled as often as it is needed.
    """
    many, other, old = link[2], 1 - bit, copy_of(bit)
    return (
        often([("send",)], 1) + right_turn(link, bit)
        + sent_over(many) + often([("miss", other)], 1)
        + often([("double", old), ("bring", old)], many - 1) + often([("bring", old)], 1)
        + often([("miss", bit)], 1) + right_turn(link, other)
    )


def lap_of_an_answer(link, bit):
    """A round from empty wires with two turns lost, where two answers have room.

    One answer is kept for two turns, and doubled as often as it is needed.
    """
    other = 1 - bit
    return (
        sent_over(link[2] + 1) + answered(bit, link[3]) + right_turn(link, other)
        + often([("repeat", bit), ("hear", bit)], link[3] - 1) + often([("hear", bit)], 1)
        + often([("send",), ("bring", "new"), ("hear", other)], link[3])
    )


def behind_doubling(link, contents, event):
    """The contents behind a possible event of wires that double."""
    need_contents(link, contents)
    if not is_listed(event, EVENTS + DOUBLINGS) or not can_happen(link, contents, event):
        raise InvalidEvent(event)
    return moved(link, contents, event)


def is_doubling_endless(link, contents, value):
    """Whether a value is an endless run of two doubling far runs."""
    need_contents(link, contents)
    if not is_tuple_of(value, 2) or not all([is_far_of(far, EVENTS + DOUBLINGS) for far in value]):
        return False
    return goes_on(link, contents, value[0], value[1])


def doubling_run(link, contents):
    """An endless run of two doubling far runs, None if nothing ever has room to be doubled."""
    need_contents(link, contents)
    if link[0] == 1 and link[1] == 1:
        return None
    bit = 1 - contents[0][0]
    lap = lap_of_a_copy(link, bit) if link[0] > 1 else lap_of_an_answer(link, bit)
    return (to_empty(link, contents), lap)
