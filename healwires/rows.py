"""Rows of hosts, along which letters are handed on."""

from healwires.errors import InvalidNumber
from healwires.moves import has_ended, has_handed
from healwires.webs import is_among, need_steps, need_web, need_web_contents


def is_row_of(web, value):
    """Whether a value is a row of what is known to be a web."""
    if not isinstance(value, list) or len(value) == 0 or not all([is_among(one, len(web[1])) for one in value]):
        return False
    ways = [web[1][one] for one in value]
    hosts = [ways[0][0]] + [way[1] for way in ways]
    led = all([way[1] == later[0] for way, later in zip(ways, ways[1:])])
    return led and all([host not in hosts[:place] for place, host in enumerate(hosts)])


def gone_along(web, contents, row, run):
    """The tuple (given, now, kept, out, later) behind a web run, by the places of the ways in a row.

    So many letters were given; what letter each way's turn has now, what is kept for it, what the last way has handed
    out, and the contents of the web. What is wrong is refused: a web, contents, a row, a web run, in this order.
    """
    need_web_contents(web, contents)
    if not is_row_of(web, row):
        raise InvalidNumber(row)
    given, later = 0, list(contents)
    # One list more than there are ways: what the last way hands out is kept behind it.
    now, kept = [None for _ in row], [[] for _ in range(len(row) + 1)]
    for number, ahead, event, behind in need_steps(web, contents, run):
        later[number] = behind
        if number not in row:
            continue
        place = row.index(number)
        if has_handed(ahead, behind):
            kept[place + 1].append(now[place] if event[1] == "new" else None)
        if has_ended(ahead, behind):
            if place == 0:
                now[0] = given
                given += 1
            else:
                now[place] = kept[place].pop(0) if kept[place] else None
    return (given, now, kept[:-1], kept[-1], later)


def is_row(web, value):
    """Whether a value is a row of a web."""
    need_web(web)
    return is_row_of(web, value)


def how_many_given(web, contents, row, run):
    """How many letters the first host of a row has given."""
    return gone_along(web, contents, row, run)[0]


def handed_along(web, contents, row, run):
    """What the last way of a row has handed out, the first one first: letters, and None for what is none of them."""
    return gone_along(web, contents, row, run)[3]


def row_faults(web, contents, row, run):
    """How many letters are missing at the end of a row below the greatest one there, how many come once more."""
    letters = [letter for letter in gone_along(web, contents, row, run)[3] if letter is not None]
    if not letters:
        return (0, 0)
    # They never fall: so equal ones are neighbours.
    twice = len([letter for letter, later in zip(letters, letters[1:]) if letter == later])
    return (max(letters) + 1 - (len(letters) - twice), twice)


def still_held(web, contents, row, run):
    """The letters that are on the way along a row: in turns that are not done yet, and with hosts; in order."""
    _, now, kept, _, later = gone_along(web, contents, row, run)
    undone = [letter for number, letter in zip(row, now) if not later[number][1][2]]
    return sorted([letter for letter in undone + [one for part in kept for one in part] if letter is not None])
