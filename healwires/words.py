"""Links whose letters are told."""

from healwires.contents import is_count, is_tuple_of, need_link, need_sound
from healwires.errors import InvalidRun, InvalidWords
from healwires.harm import harm_by
from healwires.wording import are_letters, fits_words, is_word_event, word_gone, wrong_among


def need_words(link, words):
    """Refuse what is no link, then what is no word contents of it."""
    need_link(link)
    if not fits_words(link, words):
        raise InvalidWords(words)


def need_letters(value):
    """Refuse what is no list of letters."""
    if not are_letters(value):
        raise InvalidWords(value)


def need_sound_words(link, words):
    """Refuse what is no link, no word contents of it, no sound link, in this order."""
    need_words(link, words)
    need_sound(link)


def is_word_run(value):
    """Whether a value is a list of events of words."""
    return isinstance(value, list) and all([is_word_event(event) for event in value])


def greatest_lot(words):
    """The tuple (letter, many) of the greatest lot of equal old ones, of the least letter; None if there are none."""
    (bit, sent, _), (own, lot, _), there, _ = words
    counts = {} if lot is None else {lot[0]: lot[1]}
    for borne, letter in there:
        if borne != own:
            counts[letter] = counts.get(letter, 0) + 1
    found = [(-many, letter) for letter, many in counts.items() if bit == own or letter != sent]
    return (min(found)[1], -min(found)[0]) if found else None


def word_signs(link, words):
    """Whether word contents are even, done, whether answers suffice, whether equal old ones do."""
    (bit, _, heard), (own, _, done), _, back = words
    old = greatest_lot(words)
    return (bit == own, done, heard + back[bit] >= link[3], old is not None and old[1] >= link[2])


def harm_of_words(link, words):
    """The harm of what is known to be word contents of a sound link."""
    even, done, answers_suffice, old_suffice = word_signs(link, words)
    return harm_by(even, done, answers_suffice, old_suffice)


def in_word_lot(words, letter):
    """How many copies of a letter are in the receiver's lot."""
    lot = words[1][1]
    return lot[1] if lot is not None and lot[0] == letter else 0


def next_words(link, words):
    """The events to the next wrong step, by which nothing of the worst is missed; of word contents with a harm."""
    even, done, answers_suffice, _ = word_signs(link, words)
    (bit, sent, heard), (own, _, _), there, back = words
    room = [("drop", there[0])] if len(there) == link[0] else []
    sending = [("send",), ("bring", (bit, sent))]
    if done and not even:
        return room + sending * (link[2] - in_word_lot(words, sent))
    if not done and answers_suffice:
        return [("hear", bit)] * (link[3] - heard)
    if even and not done:
        ahead = room + ([("miss", 1 - bit)] if back[1 - bit] == link[1] else [])
        return ahead + (sending + [("hear", bit)]) * (link[3] - heard)
    letter = greatest_lot(words)[0]
    return [("bring", (1 - own, letter))] * (link[2] - in_word_lot(words, letter))


def unlike_letter(words):
    """A letter that stands nowhere in word contents: so no copy that lies there is taken for one of it."""
    lot = words[1][1]
    return 1 + max([words[0][1]] + [letter for _, letter in words[2]] + ([] if lot is None else [lot[0]]))


def in_common(due, handed):
    """A table of how many letters two lists have in common, in order, behind any of their places."""
    table = [[0] * (len(handed) + 1) for _ in range(len(due) + 1)]
    for at in reversed(range(len(due))):
        for place in reversed(range(len(handed))):
            if due[at] == handed[place]:
                table[at][place] = table[at + 1][place + 1] + 1
            else:
                table[at][place] = max(table[at + 1][place], table[at][place + 1])
    return table


def apart(due, handed):
    """How many letters have to be taken out of two lists together so that equal ones are left."""
    return len(due) + len(handed) - 2 * in_common(due, handed)[0][0]


def is_telling(value):
    """Whether a value is a tuple of what came of a letter and of the letter."""
    return is_tuple_of(value, 2) and value[0] in ("right", "lost", "made") and is_count(value[1])


def is_word_contents(link, value):
    """Whether a value is word contents of a link."""
    need_link(link)
    return fits_words(link, value)


def word_events(link, words):
    """The possible events of words, in order, each once."""
    need_words(link, words)
    _, _, there, back = words
    # They are in order: so equal ones are neighbours.
    copies = there[:1] + [copy for ahead, copy in zip(there, there[1:]) if copy != ahead]
    bits = [bit for bit, many in enumerate(back) if many > 0]
    found = [(word, copy) for word in ("bring", "drop") for copy in copies]
    found.extend([(word, bit) for word in ("hear", "miss") for bit in bits])
    return found + ([("send",)] if len(there) < link[0] else [])


def word_run(link, words, given, events):
    """What is there behind events, the letters handed out rightly or lost, all handed out, the wrong steps."""
    need_words(link, words)
    need_letters(given)
    told = word_gone(link, words, given, events) if is_word_run(events) else (None, None, 0)
    if told[0] is None:
        raise InvalidRun(events)
    if told[1] is None:
        raise InvalidWords(given)
    later, marks, _ = told
    due = [letter for kind, letter in marks if kind in ("right", "lost")]
    handed = [letter for kind, letter in marks if kind != "lost"]
    return (later, due, handed, wrong_among(marks))


def greatest_old(link, words):
    """The tuple (letter, many) of the greatest lot of equal old copies, of the least letter; None if there are none."""
    need_words(link, words)
    return greatest_lot(words)


def word_harm(link, words):
    """The greatest number of wrong steps of all runs of word contents, over all lists of letters."""
    need_sound_words(link, words)
    return harm_of_words(link, words)


def least_apart(due, handed):
    """The least number of letters that have to be taken out of two lists so that equal ones are left."""
    need_letters(due)
    need_letters(handed)
    return apart(due, handed)


def explained(due, handed):
    """What came of the letters that were due and of those handed out, with as little lost and made as can be."""
    need_letters(due)
    need_letters(handed)
    table, found, at, place = in_common(due, handed), [], 0, 0
    while at < len(due) or place < len(handed):
        if at < len(due) and place < len(handed) and due[at] == handed[place]:
            found.append(("right", due[at]))
            at += 1
            place += 1
        elif at < len(due) and table[at + 1][place] == table[at][place]:
            found.append(("lost", due[at]))
            at += 1
        else:
            found.append(("made", handed[place]))
            place += 1
    return found


def is_explained(due, handed, value):
    """Whether a value tells what came of the letters, with as little lost and made as can be."""
    need_letters(due)
    need_letters(handed)
    if not isinstance(value, list) or not all([is_telling(one) for one in value]):
        return False
    if [letter for kind, letter in value if kind != "made"] != due:
        return False
    if [letter for kind, letter in value if kind != "lost"] != handed:
        return False
    return len([kind for kind, _ in value if kind != "right"]) == apart(due, handed)


def word_worst(link, words):
    """A tuple (given, events) of a run with as many wrong steps as the harm, the last event being one."""
    need_sound_words(link, words)
    given, events = [], []
    while harm_of_words(link, words) > 0:
        part, letter = next_words(link, words), unlike_letter(words)
        words, marks, used = word_gone(link, words, [letter], part)
        given.extend([letter] * used)
        events.extend(part)
    return (given, events)


def is_word_worst(link, words, value):
    """Whether a value is a tuple (given, events) of a run with as many wrong steps as the harm."""
    need_sound_words(link, words)
    if not is_tuple_of(value, 2) or not are_letters(value[0]) or not is_word_run(value[1]):
        return False
    later, marks, _ = word_gone(link, words, value[0], value[1])
    return later is not None and marks is not None and len(wrong_among(marks)) == harm_of_words(link, words)
