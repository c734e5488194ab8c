"""Texts of links, contents and far runs."""

from healwires.contents import fits_link, is_far_run, is_link, need_contents, need_link
from healwires.errors import InvalidRun, InvalidText

FIGURES = "0123456789"
MOST_FIGURES = 100
ENDINGS = {"done": True, "open": False}


def spaced(values):
    """The texts of some values, a blank between neighbouring ones."""
    return " ".join([str(value) for value in values])


def text_of_link(link):
    """The text of a link."""
    need_link(link)
    return spaced(link)


def text_of_contents(link, contents):
    """The text of contents."""
    need_contents(link, contents)
    sender, (bit, lot, done), there, back = contents
    kept = "none" if lot is None else spaced(lot)
    receiver = spaced([bit, kept, "done" if done else "open"])
    return " | ".join([spaced(sender), receiver, spaced(there), spaced(back)])


def text_of_far(run):
    """The text of a far run."""
    if not is_far_run(run):
        raise InvalidRun(run)
    return ", ".join([text_of_item(events, many) for events, many in run])


def text_of_item(events, many):
    """The text of an item of a far run."""
    text = " + ".join([spaced(event) for event in events])
    return text if many == 1 else f"{text} x{many}"


def number_of(word):
    """The number that a word writes, None if it writes none."""
    if not 0 < len(word) <= MOST_FIGURES or not all([sign in FIGURES for sign in word]):
        return None
    return int(word) if word[0] != "0" or word == "0" else None


def numbers_of(words):
    """What some words write, None in the place of what is no number."""
    return tuple([number_of(word) for word in words])


def link_of_text(text):
    """The link that has a text."""
    link = numbers_of(text.split(" ")) if isinstance(text, str) else None
    if not is_link(link):
        raise InvalidText(text)
    return link


def contents_of_text(link, text):
    """The contents of a link that have a text."""
    need_link(link)
    contents = told_contents(text) if isinstance(text, str) else None
    if not fits_link(link, contents):
        raise InvalidText(text)
    return contents


def told_contents(text):
    """What a string tells of contents; no contents of any link if it is no text of such."""
    parts = [part.split(" ") for part in text.split(" | ")]
    if len(parts) != 4:
        return None
    sender, receiver, there, back = parts
    return (numbers_of(sender), told_receiver(receiver), numbers_of(there), numbers_of(back))


def told_receiver(words):
    """What some words tell of a receiver; what no receiver is if they tell of none."""
    if len(words) < 3:
        return None
    return (number_of(words[0]), told_lot(words[1:-1]), ENDINGS.get(words[-1]))


def told_lot(words):
    """What some words, at least one, tell of a lot; what no lot is if they tell of none."""
    if words == ["none"]:
        return None
    return (words[0],) + numbers_of(words[1:])


def far_of_text(text):
    """The far run that has a text."""
    far = told_far(text) if isinstance(text, str) else None
    if not is_far_run(far):
        raise InvalidText(text)
    return far


def told_far(text):
    """What a string tells of a far run; no far run if it is no text of one."""
    return [told_item(part) for part in text.split(", ")] if text else []


def told_item(text):
    """What a string tells of an item of a far run; no item if it is no text of one."""
    told, cross, word = text.partition(" x")
    events = [told_event(part) for part in told.split(" + ")]
    if not cross:
        return (events, 1)
    # Once is told by no count at all: so "x1" stands in no text.
    return (events, None if word == "1" else number_of(word))


def told_event(text):
    """What a string tells of an event; no event if it is no text of one."""
    return tuple([int(word) if word in ("0", "1") else word for word in text.split(" ")])
