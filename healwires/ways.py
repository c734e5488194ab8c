"""In how many ways memories and wires can be, by binomial coefficients alone.

Only one count of a wire matters to harm: of the old copies of the bit unlike the receiver's, or of the answers of the
sender's bit. A shape (times, size, room) tells how free it is: it is at least so much in times * ways(size, room - so
much) ways. A pair (enough, total) tells of ways of a wire and the memory beside it how many suffice, of how many.
"""

from math import comb, gcd

from healwires.harm import harm_by

EITHER = (False, True)


def ways(size, room):
    """The number of tuples of so many counts that are at most so much together."""
    return comb(room + size, size) if room >= 0 else 0


def at_least(shape, least):
    """In how many ways the count that matters is at least so much."""
    times, size, room = shape
    return times * ways(size, room - least)


def at_least_each(shape, low, high):
    """The sum of what at_least tells of all numbers from a low to a high one."""
    times, size, room = shape
    return times * (ways(size + 1, room - low) - ways(size + 1, room - high - 1))


def heard_pair(link, shape, first, last):
    """The pair of what the sender heard, from a first number to one below a last one, and of the wire back."""
    enough = at_least_each(shape, link[3] - last + 1, link[3] - first)
    return (enough, (last - first) * at_least(shape, 0))


def lots_pair(link, shape, bare, first, last):
    """The pair of lots and of the wire there.

    The lots are so many that are not old, or none, and old ones from a first number to one below a last one.
    """
    enough = bare * at_least(shape, link[2]) + at_least_each(shape, link[2] - last + 1, link[2] - first)
    return (enough, (bare + last - first) * at_least(shape, 0))


def bare_lots(link, even):
    """How many lots are not old, or none: a lot of new copies wants bits that are unlike."""
    return 1 if even else link[2]


def of_pair(pair, enough):
    """How many ways of a pair suffice, or do not."""
    return pair[0] if enough else pair[1] - pair[0]


def with_harms(wanted, even, dones, answered, kept):
    """How many contents have one of the wanted harms, even or not, done as told, by pairs of answers and of copies."""
    return sum([
        of_pair(answered, by_answers) * of_pair(kept, by_old)
        for done in dones for by_answers in EITHER for by_old in EITHER
        if harm_by(even, done, by_answers, by_old) in wanted
    ])


def in_lowest_terms(number, total):
    """The share of a number in a total."""
    common = gcd(number, total)
    return (number // common, total // common)
