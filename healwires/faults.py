"""Faults: what changes memories or wires, whatever the hosts do."""

from healwires.contents import COPIES, is_bit, is_count, is_tuple_of, need_contents, need_link, need_sound
from healwires.errors import InvalidEvent
from healwires.harm import harm_of, need_sound_contents
from healwires.moves import borne_by, changed, grown_old

KINDS = ("copy", "answer", "turn", "swap", "sender", "receiver", "heard", "lot")


def can_befall_them(link, contents, fault):
    """Whether what is known to be a fault can befall contents."""
    kind = fault[0]
    if kind == "copy":
        return sum(contents[2]) < link[0]
    if kind == "answer":
        return sum(contents[3]) < link[1]
    if kind == "turn":
        return contents[2][COPIES.index(fault[1])] > 0
    if kind == "swap":
        return contents[3][fault[1]] > 0
    if kind == "heard":
        return fault[1] < link[3]
    return kind != "lot" or fault[1] < link[2]


def there_behind(contents, fault):
    """The wire there behind a fault of it."""
    if fault[0] == "copy":
        return changed(contents[2], 1 + fault[1], 1)
    taken = changed(contents[2], COPIES.index(fault[1]), -1)
    return changed(taken, 2 - borne_by(contents, fault[1]), 1)


def back_behind(contents, fault):
    """The wire back behind a fault of it."""
    if fault[0] == "answer":
        return changed(contents[3], fault[1], 1)
    return changed(changed(contents[3], fault[1], -1), 1 - fault[1], 1)


def sender_turned(contents):
    """The contents behind the turning of the sender's bit."""
    (sent, heard), (own, lot, done), there, back = contents
    # What is new to one letter is old to the other one.
    lot = None if lot is None else ("old", lot[1])
    return ((1 - sent, heard), (own, lot, done), grown_old(there, sent), back)


def behind_fault(contents, fault):
    """The contents behind a fault that can befall them."""
    kind = fault[0]
    (sent, heard), (own, lot, done), there, back = contents
    if kind == "sender":
        return sender_turned(contents)
    if kind in ("copy", "turn"):
        there = there_behind(contents, fault)
    elif kind in ("answer", "swap"):
        back = back_behind(contents, fault)
    elif kind == "receiver":
        own, lot = 1 - own, None
    elif kind == "heard":
        heard = fault[1]
    else:
        lot = ("old", fault[1]) if fault[1] > 0 else None
    return ((sent, heard), (own, lot, done), there, back)


def faults_for(link):
    """All faults of a link, in order, of numbers only 0 and the greatest one, each once."""
    bits = [(kind, bit) for kind in ("answer", "copy", "swap") for bit in (0, 1)]
    turns = [("turn", copy) for copy in COPIES]
    heards = [("heard", many) for many in ([0, link[3] - 1] if link[3] > 1 else [0])]
    lots = [("lot", many) for many in ([0, link[2] - 1] if link[2] > 1 else [0])]
    return sorted(bits + turns + heards + lots + [("receiver",), ("sender",)])


def faults_befalling(link, contents):
    """The faults that can befall contents, in order, of numbers only 0 and the greatest one, each once."""
    return [fault for fault in faults_for(link) if can_befall_them(link, contents, fault)]


def rise_of(link, contents, fault):
    """The harm behind a fault that can befall contents of a sound link, less that ahead of it."""
    return harm_of(link, behind_fault(contents, fault)) - harm_of(link, contents)


def worth_of(link, kind):
    """The worth of what is known to be a kind of faults."""
    if kind == "sender":
        return 3
    if kind == "receiver":
        return 1
    return 0 if (kind == "heard" and link[3] == 1) or (kind == "lot" and link[2] == 1) else 2


def need_befalling(link, contents, fault):
    """Refuse what is no link, no contents of it, no fault that can befall them, in this order."""
    need_contents(link, contents)
    if not is_fault(fault) or not can_befall_them(link, contents, fault):
        raise InvalidEvent(fault)


def is_fault(value):
    """Whether a value is a fault."""
    if value in (("sender",), ("receiver",)):
        return True
    if not is_tuple_of(value, 2):
        return False
    kind, what = value
    if kind in ("copy", "answer", "swap"):
        return is_bit(what)
    if kind == "turn":
        return what in COPIES
    return kind in ("heard", "lot") and is_count(what)


def can_befall(link, contents, value):
    """Whether a value is a fault that can befall some contents."""
    need_contents(link, contents)
    return is_fault(value) and can_befall_them(link, contents, value)


def befallen(link, contents, fault):
    """The contents behind a fault that can befall some."""
    need_befalling(link, contents, fault)
    return behind_fault(contents, fault)


def faults_of(link, contents):
    """All faults that can befall some contents, in order, of numbers only 0 and the greatest one, each once."""
    need_contents(link, contents)
    return faults_befalling(link, contents)


def rise(link, contents, fault):
    """The harm behind a fault that can befall some contents, less that ahead of it."""
    need_befalling(link, contents, fault)
    need_sound(link)
    return rise_of(link, contents, fault)


def worth(link, kind):
    """The worth of a kind of faults: its rise is never greater."""
    need_link(link)
    if kind not in KINDS:
        raise InvalidEvent(kind)
    need_sound(link)
    return worth_of(link, kind)


def worst_fault(link, contents):
    """The first, in order, of the faults with the greatest rise that can befall some contents."""
    need_sound_contents(link, contents)
    found = faults_befalling(link, contents)
    rises = [rise_of(link, contents, fault) for fault in found]
    return found[rises.index(max(rises))]
