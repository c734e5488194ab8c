"""Runs with faults among their events."""

from healwires.contents import EVENTS, is_item_of, need_contents, need_sound
from healwires.endless import often, to_empty
from healwires.errors import InvalidEvent, InvalidRun
from healwires.faults import KINDS, behind_fault, can_befall_them, is_fault, rise_of, worth_of
from healwires.harm import harm_of, need_sound_contents
from healwires.keeping import answers_kept, back_filled, both_answers_kept, copies_kept
from healwires.runs import far_gone, item_gone, wrongs_of
from healwires.worst import worst_of


def is_fault_among(item):
    """Whether an item of a faulty run is a fault."""
    return isinstance(item[0], str)


def legs_of(link, contents, value):
    """A list of tuples (contents ahead, contents behind, marks) of the items; None if a value is no faulty run."""
    if not isinstance(value, list) or not all([is_item_of(item, EVENTS) or is_fault(item) for item in value]):
        return None
    legs = []
    for item in value:
        told = item_told(link, contents, item)
        if told is None:
            return None
        legs.append((contents,) + told)
        contents = told[0]
    return legs


def item_told(link, contents, item):
    """The tuple (contents, marks) behind an item of a faulty run; None if it can't come now."""
    if not is_fault_among(item):
        return item_gone(link, contents, item[0], item[1])
    return (behind_fault(contents, item), []) if can_befall_them(link, contents, item) else None


def wrongs_in(legs):
    """The wrong steps of a faulty run, the first one first."""
    return [wrong for _, _, marks in legs for wrong in wrongs_of(marks)]


def need_faulty(link, contents, items):
    """The legs of a faulty run; refuses what is none of the contents, then a link that is not sound."""
    need_contents(link, contents)
    legs = legs_of(link, contents, items)
    if legs is None:
        raise InvalidRun(items)
    need_sound(link)
    return legs


def need_kinds(link, contents, kinds):
    """Refuse what is no link, no contents of it, no list of kinds of faults, no sound link, in this order."""
    need_contents(link, contents)
    if not isinstance(kinds, list) or not all([kind in KINDS for kind in kinds]):
        raise InvalidEvent(kinds)
    need_sound(link)


def most_of_all(link, contents, kinds):
    """The harm of what is known to be contents and the worths of kinds, together."""
    return harm_of(link, contents) + sum([worth_of(link, kind) for kind in kinds])


def readied(link, bit, kind):
    """How a fault of a kind does all the harm that it is worth, from empty wires of a tight link in a turn with a bit.

    A tuple of the far run without a wrong step that comes ahead of it, and of the fault.
    """
    copies, kept = link[2] - 1, link[3] - 1
    if kind == "receiver":
        return ([], ("receiver",))
    if kind == "sender":
        return (back_filled(link, bit) + often([("send",)], link[2]), ("sender",))
    if kind == "copy":
        return (copies_kept(link, bit, copies), ("copy", bit))
    if kind == "turn":
        return (copies_kept(link, bit, copies) + often([("send",)], 1), ("turn", "new"))
    if kind == "lot":
        return (copies_kept(link, bit, copies), ("lot", copies))
    if kind == "swap":
        return (both_answers_kept(link, bit), ("swap", 1 - bit))
    return (answers_kept(link, bit, kept), ("answer", bit) if kind == "answer" else ("heard", kept))


def harm_done(link, contents, kind):
    """From harmless contents of a tight link, all that a fault of a kind can do: it, what readies, what comes of it."""
    far, fault = readied(link, 1 - contents[0][0], kind)
    ahead = to_empty(link, contents) + far
    # What is harmless stays so: nothing goes wrong on the way to the fault.
    later = behind_fault(far_gone(link, contents, ahead)[0], fault)
    return ahead + [fault] + worst_of(link, later)


def is_within(some, kinds):
    """Whether some kinds are those of a list in its order, perhaps with others left out."""
    place = 0
    for kind in kinds:
        if place < len(some) and some[place] == kind:
            place += 1
    return place == len(some)


def is_faulty_run(link, contents, value):
    """Whether a value is a faulty run of some contents."""
    need_sound_contents(link, contents)
    return legs_of(link, contents, value) is not None


def faulty_after(link, contents, items):
    """The contents behind a faulty run."""
    legs = need_faulty(link, contents, items)
    return legs[-1][1] if legs else contents


def faulty_wrong(link, contents, items):
    """The wrong steps of a faulty run, the first one first."""
    return wrongs_in(need_faulty(link, contents, items))


def budget(link, contents, items):
    """The harm at the beginning of a faulty run and the rises of its faults, together."""
    legs = need_faulty(link, contents, items)
    rises = [rise_of(link, leg[0], item) for leg, item in zip(legs, items) if is_fault_among(item)]
    return harm_of(link, contents) + sum(rises)


def most_wrong(link, contents, kinds):
    """How many wrong steps a faulty run has at most, whose faults are at most of these kinds."""
    need_kinds(link, contents, kinds)
    return most_of_all(link, contents, kinds)


def worst_faulty(link, contents, kinds):
    """A faulty run with as many wrong steps as faults of these kinds can do; None if the link is not tight."""
    need_kinds(link, contents, kinds)
    if link[0] != link[2] or link[1] != link[3]:
        return None
    items = worst_of(link, contents)
    contents = far_gone(link, contents, items)[0]
    for kind in kinds:
        if worth_of(link, kind) > 0:
            part = harm_done(link, contents, kind)
            items.extend(part)
            contents = legs_of(link, contents, part)[-1][1]
    return items


def is_worst_faulty(link, contents, kinds, value):
    """Whether a value is a faulty run with as many wrong steps as faults of these kinds, in this order, can do."""
    need_kinds(link, contents, kinds)
    legs = legs_of(link, contents, value)
    if legs is None or len(wrongs_in(legs)) != most_of_all(link, contents, kinds):
        return False
    return is_within([item[0] for item in value if is_fault_among(item)], kinds)
