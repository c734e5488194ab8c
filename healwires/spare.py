"""What spare copies and spare answers forgive."""

from healwires.budgets import is_fault_among, legs_of, wrongs_in
from healwires.contents import empty, need_link, need_sound
from healwires.endless import often
from healwires.errors import InvalidEvent
from healwires.keeping import answers_kept, copies_kept
from healwires.runs import turns_of

FORGED = {"copy": "copies", "turn": "copies", "answer": "answers", "swap": "answers"}


def spare_of(link):
    """By what is forged: how many more equal ones are wanted than the wire holds."""
    return {"copies": link[2] - link[0], "answers": link[3] - link[1]}


def forgets(marks, forged):
    """Whether what was forged is of no account behind an item: copies by a lot handed out, answers by a turn's end."""
    ends = turns_of(marks)
    return ends > 0 if forged == "answers" else len(marks) > ends


def most_at_once(value, legs, forged):
    """How many faults that forge come at most in a faulty run with nothing between them by which they are forgotten."""
    most, many = 0, 0
    for item, leg in zip(value, legs):
        if is_fault_among(item):
            many += 1 if FORGED[item[0]] == forged else 0
            most = max(most, many)
        elif forgets(leg[2], forged):
            many = 0
    return most


def need_forger(link, kind):
    """Refuse what is no link, no kind of faults that puts something into a wire, no sound link, in this order."""
    need_link(link)
    if kind not in ("copy", "answer"):
        raise InvalidEvent(kind)
    need_sound(link)


def spare(link):
    """How many more equal copies, and answers, are wanted than the wires hold."""
    need_link(link)
    need_sound(link)
    return (link[2] - link[0], link[3] - link[1])


def is_forgiven(link, value):
    """Whether a value is a faulty run from empty wires whose faults are forgiven."""
    need_link(link)
    need_sound(link)
    legs = legs_of(link, empty(link, 0), value)
    if legs is None or not all([item[0] in FORGED for item in value if is_fault_among(item)]):
        return False
    return all([most_at_once(value, legs, forged) <= many for forged, many in spare_of(link).items()])


def unforgiven(link, kind):
    """A faulty run from empty wires, with one fault of a kind more than is forgiven, whose last event is wrong."""
    need_forger(link, kind)
    if kind == "copy":
        kept, more, fault, event = link[0] - 1, link[2] - link[0], ("copy", 0), ("bring", "zero")
        items = copies_kept(link, 0, kept)
    else:
        kept, more, fault, event = link[1] - 1, link[3] - link[1], ("answer", 0), ("hear", 0)
        items = answers_kept(link, 0, kept)
    for _ in range(more + 1):
        # Each is taken out of the wire at once: its last place has to be free for the next one.
        items.extend([fault, ([event], 1)])
    return items + often([event], kept)


def is_unforgiven(link, kind, value):
    """Whether a value is a faulty run from empty wires that goes wrong by one fault of a kind more than is forgiven."""
    need_forger(link, kind)
    legs = legs_of(link, empty(link, 0), value)
    if legs is None or len(wrongs_in(legs)) == 0:
        return False
    forged = FORGED[kind]
    faults = [item for item in value if is_fault_among(item)]
    if not all([fault[0] == kind for fault in faults]):
        return False
    many = spare_of(link)[forged] + 1
    return len(faults) == many and most_at_once(value, legs, forged) == many
