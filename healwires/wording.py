"""What events do where the letters are told, for links and word contents that are known to be such.

A copy is a bit and a letter. None is marked as new or old: one with the sender's bit and letter is as good as new.
"""

from healwires.contents import are_counts, is_bit, is_count, is_tuple_of
from healwires.moves import changed

WRONG = ("lost", "made", "twice")


def is_copy(value):
    """Whether a value is a copy of a letter."""
    return is_tuple_of(value, 2) and is_bit(value[0]) and is_count(value[1])


def are_letters(value):
    """Whether a value is a list of letters."""
    return isinstance(value, list) and all([is_count(letter) for letter in value])


def fits_words(link, value):
    """Whether a value is word contents of what is known to be a link."""
    if not is_tuple_of(value, 4):
        return False
    sender, receiver, there, back = value
    if not is_word_sender(link, sender) or not is_word_receiver(link, receiver):
        return False
    return is_word_wire(link, there) and are_counts(back, 2, link[1])


def is_word_sender(link, value):
    """Whether a value is what a sender of letters keeps."""
    return is_tuple_of(value, 3) and is_copy(value[:2]) and is_count(value[2]) and value[2] < link[3]


def is_word_receiver(link, value):
    """Whether a value is what a receiver of letters keeps."""
    if not is_tuple_of(value, 3) or not is_bit(value[0]) or not isinstance(value[2], bool):
        return False
    lot = value[1]
    if lot is None:
        return True
    return is_tuple_of(lot, 2) and is_count(lot[0]) and is_count(lot[1]) and 0 < lot[1] < link[2]


def is_word_wire(link, value):
    """Whether a value is what can lie in the wire there: copies, in order."""
    if not isinstance(value, list) or len(value) > link[0] or not all([is_copy(copy) for copy in value]):
        return False
    return all([copy <= later for copy, later in zip(value, value[1:])])


def is_word_event(value):
    """Whether a value is an event of words."""
    if value == ("send",):
        return True
    if not is_tuple_of(value, 2):
        return False
    if value[0] in ("drop", "bring"):
        return is_copy(value[1])
    return value[0] in ("miss", "hear") and is_bit(value[1])


def can_come(link, words, event):
    """Whether an event of words is possible."""
    if event[0] == "send":
        return len(words[2]) < link[0]
    if event[0] in ("drop", "bring"):
        return event[1] in words[2]
    return words[3][event[1]] > 0


def ends_turn(link, words, event):
    """Whether a turn ends by a possible event of words."""
    bit, _, heard = words[0]
    return event == ("hear", bit) and heard + 1 == link[3]


def without(there, copy):
    """What lies in the wire there without one equal copy."""
    place = there.index(copy)
    return there[:place] + there[place + 1:]


def word_moved(link, words, event, letter):
    """The tuple (words, mark) behind a possible event of words, after which a turn that begins has a letter.

    A mark is None, or a tuple of "right", "lost", "made" or "twice" and of the letter that this is told of.
    """
    sender, receiver, there, back = words
    if event[0] == "send":
        return ((sender, receiver, sorted(there + [sender[:2]]), back), None)
    if event[0] == "drop":
        return ((sender, receiver, without(there, event[1]), back), None)
    if event[0] == "bring":
        return word_brought(link, words, event[1])
    later = (sender, receiver, there, changed(back, event[1], -1))
    if event == ("hear", sender[0]):
        return word_answered(link, later, letter)
    return (later, None)


def word_brought(link, words, copy):
    """The tuple (words, mark) behind the bringing of a copy."""
    sender, (own, lot, done), there, back = words
    mark = None
    many = lot[1] + 1 if lot is not None and lot[0] == copy[1] else 1
    if copy[0] == own:
        lot = None
    elif many < link[2]:
        lot = (copy[1], many)
    else:
        mark = (how_handed(copy == sender[:2], done), copy[1])
        own, lot, done = copy[0], None, done or copy == sender[:2]
    if copy[0] == own and sum(back) < link[1]:
        back = changed(back, own, 1)
    return ((sender, (own, lot, done), without(there, copy), back), mark)


def how_handed(new, done):
    """How a letter is handed out: by copies that are as good as new or not, done already or not."""
    if not new:
        return "made"
    return "twice" if done else "right"


def word_answered(link, words, letter):
    """The tuple (words, mark) behind the hearing of an answer of the sender's bit, which was taken out."""
    (bit, sent, heard), (own, lot, done), there, back = words
    if heard + 1 < link[3]:
        return (((bit, sent, heard + 1), (own, lot, done), there, back), None)
    return (((1 - bit, letter, 0), (own, lot, False), there, back), None if done else ("lost", sent))


def word_gone(link, words, given, events):
    """The tuple (words, marks, used) behind events of words, so many letters of a list used.

    In the place of words None if an event is not possible, in the place of marks None if no letter is left.
    """
    sender, receiver, there, back = words
    words, marks, used = (sender, receiver, list(there), back), [], 0
    for event in events:
        if not can_come(link, words, event):
            return (None, marks, used)
        letter = None
        if ends_turn(link, words, event):
            if used == len(given):
                return (words, None, used)
            letter = given[used]
            used += 1
        words, mark = word_moved(link, words, event, letter)
        if mark is not None:
            marks.append(mark)
    return (words, marks, used)


def wrong_among(marks):
    """The kinds of the wrong steps among marks, the first one first."""
    return [kind for kind, _ in marks if kind in WRONG]
