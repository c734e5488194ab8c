"""What can go wrong for ever."""

from healwires.contents import COPIES, is_far_run, is_sound, is_tuple_of, need_contents, need_link
from healwires.errors import InvalidEvent
from healwires.moves import copy_of
from healwires.runs import far_gone, wrongs_of


def often(events, many):
    """The far run of a list of events, so often; of no item if this is never."""
    return [(events, many)] if many > 0 else []


def sent_over(many):
    """So many new copies, each brought as soon as it is sent."""
    return often([("send",), ("bring", "new")], many)


def answered(bit, many):
    """So many answers heard, by one answer and one place in the wire there, with bits that are alike."""
    return often([("hear", bit), ("send",), ("bring", "new")], many - 1) + often([("hear", bit)], 1)


def right_turn(link, bit):
    """A whole turn in which nothing goes wrong; whatever else lies in the wires lies there behind it, too."""
    return sent_over(link[2]) + answered(bit, link[3])


def taken_out(contents):
    """The far run by which all that lies in the wires is taken out."""
    there = [often([("drop", copy)], many) for copy, many in zip(COPIES, contents[2])]
    back = [often([("miss", bit)], many) for bit, many in enumerate(contents[3])]
    return [item for part in there + back for item in part]


def to_empty(link, contents):
    """A far run to the beginning of the next turn, with nothing in the wires."""
    (bit, heard), (own, lot, _), _, _ = contents
    left = link[3] - heard
    if bit == own:
        return taken_out(contents) + often([("send",), ("bring", "new"), ("hear", bit)], left)
    kept = lot[1] if lot is not None and lot[0] == "new" else 0
    return taken_out(contents) + sent_over(link[2] - kept) + answered(bit, left)


def lap_of_copies(link, bit):
    """A round from empty wires with wrong steps of all kinds, where the wire there holds more than p copies.

    p copies are kept for a turn: once from the turn of this bit to the next one, once the other way about.
    """
    many, other = link[2], 1 - bit
    return (
        often([("send",)], many) + right_turn(link, bit)
        + sent_over(many) + often([("miss", other)], 1)
        + often([("bring", copy_of(bit))], many) + often([("miss", bit)], 1)
        + sent_over(many) + often([("send",)], many) + answered(other, link[3])
        + right_turn(link, bit)
        + often([("bring", copy_of(other))], many) + answered(other, link[3])
    )


def lap_of_answers(link, bit):
    """A round from empty wires with a turn lost and an old lot made, where the wire back holds more than q answers.

    q answers are kept for two turns. A lot that is all but full when they end the next turn is old behind it.
    """
    many, other = link[2], 1 - bit
    return (
        sent_over(many + link[3]) + answered(bit, link[3]) + right_turn(link, other)
        + sent_over(many - 1) + often([("send",)], 1) + often([("hear", bit)], link[3])
        + often([("bring", copy_of(bit))], 1) + often([("miss", bit)], 1)
        + right_turn(link, other)
    )


def kinds_of(link):
    """The wrong kinds that can come for ever in what is known to be a link, in order."""
    if link[2] < link[0]:
        return ["lost", "made", "twice"]
    return ["lost", "made"] if link[3] < link[1] else []


def endless_from(link, contents):
    """An endless run of contents of a link that is not sound, with all kinds that can come for ever in its round."""
    # The turn that goes on ends ahead: so the round begins with the other bit.
    bit = 1 - contents[0][0]
    lap = lap_of_copies(link, bit) if link[2] < link[0] else lap_of_answers(link, bit)
    return (to_empty(link, contents), lap)


def goes_on(link, contents, ahead, lap):
    """Whether one of two far runs leads to where the other one leads back to, with a wrong step."""
    told = far_gone(link, contents, ahead)
    if told is None:
        return False
    again = far_gone(link, told[0], lap)
    return again is not None and again[0] == told[0] and len(wrongs_of(again[1])) > 0


def is_endless(link, contents, value):
    """Whether a value is an endless run of some contents."""
    need_contents(link, contents)
    if not is_tuple_of(value, 2) or not is_far_run(value[0]) or not is_far_run(value[1]):
        return False
    return goes_on(link, contents, value[0], value[1])


def endless_run(link, contents):
    """An endless run of some contents, None if the link is sound."""
    need_contents(link, contents)
    return None if is_sound(link) else endless_from(link, contents)


def endless_kinds(link):
    """The wrong kinds that come in the rounds of some endless runs, in order."""
    need_link(link)
    return kinds_of(link)


def endless_of(link, contents, wrong):
    """An endless run in whose round a wrong step of a kind comes, None if there is none."""
    need_contents(link, contents)
    if wrong not in ("lost", "made", "twice"):
        raise InvalidEvent(wrong)
    return endless_from(link, contents) if wrong in kinds_of(link) else None
