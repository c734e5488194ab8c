"""How many letters are handed out rightly by how many events."""

from healwires.contents import MOST_EVENTS, empty, is_run, need_link, need_sound
from healwires.counting import need_number
from healwires.endless import right_turn, sent_over
from healwires.errors import TooMany
from healwires.runs import far_told, gone_once
from healwires.ways import in_lowest_terms

RIGHT = ("new", None)


def cost_of_turn(link):
    """The least number of events from the beginning of a turn with nothing in the wires to the next one."""
    return 2 * link[2] + 3 * link[3] - 2


def cost_of_letters(link, letters):
    """The least number of events from empty wires by which so many letters are handed out rightly."""
    return 2 * link[2] + (letters - 1) * cost_of_turn(link) if letters > 0 else 0


def need_counted(link, number):
    """Refuse what is no link, no count, no sound link, in this order."""
    need_link(link)
    need_number(number)
    need_sound(link)


def turn_cost(link):
    """The least number of events from the beginning of a turn with nothing in the wires to the next one."""
    need_link(link)
    return cost_of_turn(link)


def most_right(link, many):
    """The greatest number of letters that are handed out rightly by at most so many events from empty wires."""
    need_counted(link, many)
    return 0 if many < 2 * link[2] else 1 + (many - 2 * link[2]) // cost_of_turn(link)


def events_for(link, letters):
    """The least number of events from empty wires by which so many letters are handed out rightly."""
    need_counted(link, letters)
    return cost_of_letters(link, letters)


def busy_run(link, letters):
    """A run from empty wires with the least number of events that hands so many letters out rightly."""
    need_counted(link, letters)
    many = cost_of_letters(link, letters)
    if many > MOST_EVENTS:
        raise TooMany(many)
    far = []
    for number in range(letters):
        far.extend(right_turn(link, number % 2) if number < letters - 1 else sent_over(link[2]))
    return [event for events, times in far for _ in range(times) for event in events]


def is_busy_run(link, letters, value):
    """Whether a value is a run from empty wires with so few events that hands so many letters out rightly."""
    need_counted(link, letters)
    if not is_run(value) or len(value) != cost_of_letters(link, letters):
        return False
    told = gone_once(link, empty(link, 0), value)
    return told is not None and told[1].count(RIGHT) == letters


def rate_of(link, contents, far):
    """The letters that a far run hands out rightly over its events, as a tuple in lowest terms; None without events."""
    marks = far_told(link, contents, far)[1]
    many = sum([len(events) * times for events, times in far])
    return None if many == 0 else in_lowest_terms(marks.count(RIGHT), many)
