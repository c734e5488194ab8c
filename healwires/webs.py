"""Webs of hosts with links between them."""

from healwires.contents import fits_link, is_count, is_event, is_link, is_sound, is_tuple_of
from healwires.errors import InvalidContents, InvalidNumber, InvalidRun, InvalidWeb, Unlike
from healwires.harm import harm_of
from healwires.mending import by_taking, by_words, cheapest_of, is_mending_of, need_most, price_of
from healwires.moves import can_happen, moved, wrong_between


def is_among(value, many):
    """Whether a value is one of so many numbers, from 0 on."""
    return is_count(value) and value < many


def is_way(hosts, value):
    """Whether a value is a way between two of so many hosts."""
    if not is_tuple_of(value, 3) or not is_among(value[0], hosts) or not is_among(value[1], hosts):
        return False
    return value[0] != value[1] and is_link(value[2])


def fits_web(web, value):
    """Whether a value is contents of what is known to be a web."""
    if not isinstance(value, list) or len(value) != len(web[1]):
        return False
    return all([fits_link(way[2], one) for way, one in zip(web[1], value)])


def is_step_of(web, value):
    """Whether a value is a number of a way of a web and an event."""
    return is_tuple_of(value, 2) and is_among(value[0], len(web[1])) and is_event(value[1])


def web_steps(web, contents, value):
    """A list of tuples (number, contents ahead, event, contents behind) of a web run; None if a value is none."""
    if not isinstance(value, list) or not all([is_step_of(web, step) for step in value]):
        return None
    now, steps = list(contents), []
    for number, event in value:
        link = web[1][number][2]
        if not can_happen(link, now[number], event):
            return None
        later = moved(link, now[number], event)
        steps.append((number, now[number], event, later))
        now[number] = later
    return steps


def need_web(web):
    """Refuse what is no web."""
    if not is_web(web):
        raise InvalidWeb(web)


def need_web_contents(web, contents):
    """Refuse what is no web, then what is no contents of it."""
    need_web(web)
    if not fits_web(web, contents):
        raise InvalidContents(contents)


def need_web_run(web, contents, run):
    """The steps of a web run; refuses what is no web, no contents of it, no web run of them, in this order."""
    need_web_contents(web, contents)
    return need_steps(web, contents, run)


def need_steps(web, contents, run):
    """The steps of a web run; refuses what is none of the contents."""
    steps = web_steps(web, contents, run)
    if steps is None:
        raise InvalidRun(run)
    return steps


def need_among(value, many):
    """Refuse what is none of so many numbers, from 0 on."""
    if not is_among(value, many):
        raise InvalidNumber(value)


def need_all_sound(web):
    """Refuse a web with a link that is not sound."""
    for _, _, link in web[1]:
        if not is_sound(link):
            raise Unlike(link)


def harms_of(web, contents):
    """The list of the harms of the ways."""
    return [harm_of(way[2], one) for way, one in zip(web[1], contents)]


def best_by_room(least, costs):
    """By how much may still go wrong: the least cost with one way more, and how much of it this way may keep.

    least tells the costs without the way, costs those of the way, by how much of it may still go wrong.
    """
    return [
        min([(least[room - kept] + cost, kept) for kept, cost in enumerate(costs) if kept <= room])
        for room in range(len(least))
    ]


def mendings_together(web, contents, most):
    """The least cost of mendings, one for each way, behind which the harm is so much at most, and such mendings."""
    room = min(most, sum(harms_of(web, contents)))
    least, bests, choices = [0] * (room + 1), [], []
    for way, one in zip(web[1], contents):
        choice = [cheapest_of(way[2], one, kept)[0] for kept in range(4)]
        best = best_by_room(least, [price_of(mending) for mending in choice])
        least = [cost for cost, _ in best]
        bests.append(best)
        choices.append(choice)
    found, left = [], room
    for place in reversed(range(len(bests))):
        kept = bests[place][left][1]
        found.append(choices[place][kept])
        left -= kept
    return (least[room], found[::-1])


def need_web_most(web, contents, most):
    """Refuse what is no web, no contents of it, no count of what may go wrong, no web of sound links, in this order."""
    need_web_contents(web, contents)
    need_most(most)
    need_all_sound(web)


def is_web(value):
    """Whether a value is a web."""
    if not is_tuple_of(value, 2) or not is_count(value[0]) or value[0] < 1 or not isinstance(value[1], list):
        return False
    hosts, ways = value
    if not all([is_way(hosts, way) for way in ways]):
        return False
    return all([way[:2] < later[:2] for way, later in zip(ways, ways[1:])])


def are_web_contents(web, value):
    """Whether a value is contents of a web."""
    need_web(web)
    return fits_web(web, value)


def can_go_web(web, contents, value):
    """Whether a value is a web run of some contents."""
    need_web_contents(web, contents)
    return web_steps(web, contents, value) is not None


def web_after(web, contents, run):
    """The contents of a web behind a web run."""
    steps = need_web_run(web, contents, run)
    found = list(contents)
    for number, _, _, later in steps:
        found[number] = later
    return found


def web_wrong_steps(web, contents, run):
    """The tuples (number, wrong) of the wrong steps of a web run, the first one first."""
    told = [
        (number, wrong_between(ahead, event, later))
        for number, ahead, event, later in need_web_run(web, contents, run)
    ]
    return [step for step in told if step[1] is not None]


def part_of(web, contents, run, number):
    """The run of one way within a web run."""
    need_web_run(web, contents, run)
    need_among(number, len(web[1]))
    return [event for way, event in run if way == number]


def by_ways(web, contents, run):
    """The web run with the events of way 0 first, then those of way 1, and so on."""
    need_web_run(web, contents, run)
    return [step for number in range(len(web[1])) for step in run if step[0] == number]


def web_harm(web, contents):
    """The greatest number of wrong steps of web runs of some contents."""
    need_web_contents(web, contents)
    need_all_sound(web)
    return sum(harms_of(web, contents))


def harm_at(web, contents, host):
    """The sum of the harms of the ways that lead to a host."""
    need_web_contents(web, contents)
    need_among(host, web[0])
    need_all_sound(web)
    return sum([many for way, many in zip(web[1], harms_of(web, contents)) if way[1] == host])


def ways_by_harm(web, contents):
    """How many ways have the harm 0, 1, 2, 3."""
    need_web_contents(web, contents)
    need_all_sound(web)
    harms = harms_of(web, contents)
    return [harms.count(many) for many in range(4)]


def web_mending_cost(web, contents, most):
    """The least cost of mendings, one for each way, behind which the harm of the web is so much at most."""
    need_web_most(web, contents, most)
    return mendings_together(web, contents, most)[0]


def web_mendings(web, contents, most):
    """Mendings of the least cost, one for each way, behind which the harm of the web is so much at most."""
    need_web_most(web, contents, most)
    return mendings_together(web, contents, most)[1]


def are_web_mendings(web, contents, most, value):
    """Whether a value is mendings of the least cost behind which the harm of the web is so much at most."""
    need_web_most(web, contents, most)
    if not isinstance(value, list) or len(value) != len(contents):
        return False
    if not all([is_mending_of(one, mending) for one, mending in zip(contents, value)]):
        return False
    behind = [by_taking(by_words(one, mending[0]), mending[1]) for one, mending in zip(contents, value)]
    cost = sum([price_of(mending) for mending in value])
    return sum(harms_of(web, behind)) <= most and cost == mendings_together(web, contents, most)[0]
