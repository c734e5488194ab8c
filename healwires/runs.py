"""Runs, and far runs, whose items are gone through any number of times."""

from healwires.contents import is_far_run, is_run, need_contents
from healwires.errors import InvalidRun
from healwires.moves import can_happen, has_ended, has_handed, lying, moved, wrong_between

WORDS = ("send", "drop", "bring", "miss", "hear")


def gone_once(link, contents, events):
    """The tuple (contents, marks, cases, slacks) behind a list of events; None if one of them is not possible.

    Marks tell what matters, in its order: of each end of a turn ("turn", wrong), of each lot that is handed out
    ("new", wrong) or ("old", wrong). Cases and slacks are told of each event, for those who go on, see item_gone.
    """
    marks, cases, slacks = [], [], []
    for event in events:
        if not can_happen(link, contents, event):
            return None
        later = moved(link, contents, event)
        found = marks_of(contents, event, later)
        marks.extend(found)
        # What is alike ahead of an event by which a turn ends, or a lot is handed out, is another case all the same.
        cases.append((case_of(link, contents), found))
        slacks.extend(slacks_of(link, contents, event, later))
        contents = later
    return (contents, marks, cases, slacks)


def marks_of(ahead, event, later):
    """The list of the mark of the one event between some contents and later ones, empty if it has none."""
    wrong = wrong_between(ahead, event, later)
    if has_ended(ahead, later):
        return [("turn", wrong)]
    if has_handed(ahead, later):
        return [("new" if event[1] == "new" else "old", wrong)]
    return []


def case_of(link, contents):
    """What, beside its numbers, decides what an event does: the bits, the sort of the lot, whether answers are lost."""
    bit, lot, _ = contents[1]
    return (contents[0][0], bit, None if lot is None else lot[0], sum(contents[3]) == link[1])


def slacks_of(link, ahead, event, later):
    """By how much each number of an event could be worse without making it another case, or impossible."""
    lot = later[1][1]
    return [
        0 if event[0] == "send" else lying(ahead, event) - 1,
        link[0] - sum(later[2]),
        link[1] - sum(later[3]),
        link[2] - 1 - (0 if lot is None else lot[1]),
        link[3] - 1 - later[0][1],
    ]


def few_enough(marks):
    """Whether at most one turn ends, and at most one lot is handed out, as an item of a far run wants it."""
    ends = [kind for kind, _ in marks if kind == "turn"]
    return len(ends) < 2 and len(marks) - len(ends) < 2


def item_gone(link, contents, events, many):
    """The tuple (contents, marks) behind an item of a far run; None if it is none of the contents.

    If two times, one behind the other, meet the same cases, each further one changes all numbers by the same, until
    a slack is used up: so all these are told at once.
    """
    marks, cases, slacks = [], None, None
    while many > 0:
        told = gone_once(link, contents, events)
        if told is None:
            return None
        later, found, met, left = told
        marks.extend(found)
        if not few_enough(marks):
            return None
        many -= 1
        if met != cases:
            contents, cases, slacks = later, met, left
        else:
            times = times_alike(slacks, left, many)
            contents, many, cases = moved_on(contents, later, times), many - times, None
    return (contents, marks)


def times_alike(slacks, left, most):
    """How many more times, at most so many, meet the same cases as the two whose slacks these are."""
    for ahead, now in zip(slacks, left):
        if now < ahead:
            most = min(most, now // (ahead - now))
    return most


def moved_on(ahead, later, times):
    """The contents behind so many more times that change all numbers as the one between these contents does."""
    (bit, heard), (own, lot, done), there, back = later
    if lot is not None:
        lot = (lot[0], further(ahead[1][1][1], lot[1], times))
    return (
        (bit, further(ahead[0][1], heard, times)),
        (own, lot, done),
        tuple([further(one, other, times) for one, other in zip(ahead[2], there)]),
        tuple([further(one, other, times) for one, other in zip(ahead[3], back)]),
    )


def further(ahead, later, times):
    """A number that goes on so many times as it went from one value to a later one."""
    return later + times * (later - ahead)


def far_gone(link, contents, far):
    """The tuple (contents, marks) behind a far run; None if it is none of the contents."""
    marks = []
    for events, many in far:
        told = item_gone(link, contents, events, many)
        if told is None:
            return None
        contents = told[0]
        marks.extend(told[1])
    return (contents, marks)


def wrongs_of(marks):
    """The wrong steps among marks, the first one first."""
    return [wrong for _, wrong in marks if wrong is not None]


def turns_of(marks):
    """How many turns end among marks."""
    return len([kind for kind, _ in marks if kind == "turn"])


def run_told(link, contents, events):
    """The tuple (contents, marks) behind a run; whatever is no run of the contents is refused."""
    need_contents(link, contents)
    told = gone_once(link, contents, events) if is_run(events) else None
    if told is None:
        raise InvalidRun(events)
    return told[:2]


def far_told(link, contents, far):
    """The tuple (contents, marks) behind a far run; whatever is no far run of the contents is refused."""
    need_contents(link, contents)
    told = far_gone(link, contents, far) if is_far_run(far) else None
    if told is None:
        raise InvalidRun(far)
    return told


def can_go(link, contents, value):
    """Whether a value is a run of some contents."""
    need_contents(link, contents)
    return is_run(value) and gone_once(link, contents, value) is not None


def after(link, contents, events):
    """The contents behind a run."""
    return run_told(link, contents, events)[0]


def wrong_steps(link, contents, events):
    """The wrong steps of a run, the first one first."""
    return wrongs_of(run_told(link, contents, events)[1])


def turns_ended(link, contents, events):
    """How many turns end in a run."""
    return turns_of(run_told(link, contents, events)[1])


def handed_out(link, contents, events):
    """The numbers of the letters that are handed out in a run, None for each old lot."""
    letters, number = [], 0
    for kind, _ in run_told(link, contents, events)[1]:
        if kind == "turn":
            number += 1
        else:
            letters.append(number if kind == "new" else None)
    return letters


def can_go_far(link, contents, value):
    """Whether a value is a far run of some contents."""
    need_contents(link, contents)
    return is_far_run(value) and far_gone(link, contents, value) is not None


def far_after(link, contents, far):
    """The contents behind a far run."""
    return far_told(link, contents, far)[0]


def far_wrong_steps(link, contents, far):
    """The wrong steps of a far run, the first one first."""
    return wrongs_of(far_told(link, contents, far)[1])


def far_turns(link, contents, far):
    """How many turns end in a far run."""
    return turns_of(far_told(link, contents, far)[1])


def far_handed(link, contents, far):
    """How many letters are handed out rightly in a far run, how many made, how many twice."""
    marks = far_told(link, contents, far)[1]
    return (marks.count(("new", None)), marks.count(("old", "made")), marks.count(("new", "twice")))


def tally(far):
    """How many events of a far run are sendings, droppings, bringings, missings, hearings."""
    if not is_far_run(far):
        raise InvalidRun(far)
    words = [(event[0], many) for events, many in far for event in events]
    return tuple([sum([many for told, many in words if told == word]) for word in WORDS])
