"""The search for a number by how many there are below it, for counts of links of any sizes.

Halving what the number may be takes a hundred looks for thirty figures. What is counted here grows like a product of
a few numbers, on either side of a bend: so most looks are aimed at where the number has to be if the count grew
evenly, and halving is left to what the aim can't tell, which is how many figures the number has.
"""

FEW = 4
# How unlike two ends have to be until an aim, which takes both into account, goes astray.
ASTRAY = 64
# How many aims in a row may leave more than half of a bracket.
DULL = 3


def part_within(count, most, bend, number):
    """The greatest part, at most so much, below which there are at most so many.

    count is the function that tells how many there are below a part: none below 0, more than the number below what is
    one more than the most. At the bend, if it lies between, the count begins to grow, or ceases to: so the search keeps
    to one side of it.
    """
    if most <= FEW:
        part = 0
        while part < most and count(part + 1) <= number:
            part += 1
        return part
    bracket = (0, number, most + 1, count(most + 1) - number)
    if 0 < bend <= most:
        bracket = looked(count, number, bracket, bend)
    for _ in range(2):
        if is_wide(bracket):
            bracket = looked(count, number, bracket, aim_of(bracket))
    return closed(count, number, sized(count, number, bracket))


def looked(count, number, bracket, part):
    """A bracket behind a look at a part within it.

    A bracket is a tuple (low, under, high, over): the part is at least low, and less than high; so many lie below the
    number there, and above it.
    """
    low, under, high, over = bracket
    left = number - count(part)
    return (part, left, high, over) if left >= 0 else (low, under, part, -left)


def is_wide(bracket):
    """Whether a bracket leaves a choice."""
    return bracket[2] - bracket[0] > 1


def aim_of(bracket):
    """Where the number would be if the count grew evenly; strictly within the bracket."""
    low, under, high, over = bracket
    return low + max(1, min(high - low - 1, under * (high - low) // (under + over)))


def sized(count, number, bracket):
    """The bracket in which the distance from the nearer end is known to one figure of two, if an aim goes astray."""
    low, under, high, over = bracket
    if under * ASTRAY < over:
        end, way = low, 1
    elif over * ASTRAY < under:
        end, way = high, -1
    else:
        return bracket
    small, large = 0, (high - low).bit_length()
    while large - small > 1 and is_wide(bracket):
        middle = (small + large) // 2
        part = end + way * (1 << middle)
        if part <= low or part >= high:
            large = middle
            continue
        bracket = looked(count, number, bracket, part)
        if (bracket[0] == part) == (way == 1):
            small = middle
        else:
            large = middle
    return bracket


def closed(count, number, bracket):
    """The low end of a bracket that is closed in by aims, and by halving where these lead nowhere."""
    stayed, dull = None, 0
    while is_wide(bracket):
        low, _, high, _ = bracket
        part = aim_of(bracket) if dull < DULL else (low + high) // 2
        bracket = looked(count, number, bracket, part)
        dull = dull + 1 if dull < DULL and (bracket[2] - bracket[0]) * 2 > high - low else 0
        low_stays = bracket[0] == low
        if low_stays == stayed:
            # An end that stays twice would draw all further aims to its side, so it counts for half as much.
            bracket = eased(bracket, low_stays)
        stayed = low_stays
    return bracket[0]


def eased(bracket, low_stays):
    """A bracket one end of which counts for half as much in further aims."""
    low, under, high, over = bracket
    return (low, under // 2, high, over) if low_stays else (low, under, high, over // 2 + 1)
