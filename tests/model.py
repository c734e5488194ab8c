"""What the tests hold the package against: a second, slow way to tell what a link does, and wrong values."""

import copy
import itertools
import random

from healwires.errors import InvalidNumber
from healwires.live import LiveLink

BIT_OF_OLD = {"zero": 0, "one": 1}


def counts_up_to(size, most):
    """All tuples of so many counts, at most so much together."""
    return [row for row in itertools.product(range(most + 1), repeat=size) if sum(row) <= most]


def all_contents(link):
    """All contents of a small link, straight from the definition."""
    c, d, p, q = link
    found = []
    for bit, heard, other, done in itertools.product((0, 1), range(q), (0, 1), (False, True)):
        lots = [None] + [("old", many) for many in range(1, p)]
        if bit != other:
            lots += [("new", many) for many in range(1, p)]
        for lot, there, back in itertools.product(lots, counts_up_to(3, c), counts_up_to(2, d)):
            found.append(((bit, heard), (other, lot, done), there, back))
    return found


def drawn_contents(link, most=700):
    """All contents of a smaller link, so many of a larger one."""
    everything = all_contents(link)
    return random.Random(16).sample(everything, min(len(everything), most))


def all_events(doubling=False):
    words = ["bring", "drop"] + ["double"] * doubling
    events = [("send",)] + [(word, name) for word in words for name in ("new", "zero", "one")]
    words = ["miss", "hear"] + ["repeat"] * doubling
    return sorted(events + [(word, bit) for word in words for bit in (0, 1)])


def step(link, contents, event):
    """(contents, wrong, turn ended, lot handed out) behind an event, None if it is not possible."""
    c, d, p, q = link
    (bit, heard), (other, lot, done), (new, zeros, ones), (nays, yeas) = contents
    there, back = {"new": new, "zero": zeros, "one": ones}, [nays, yeas]
    wrong, ended, handed = None, False, False
    word, named = event[0], event[-1]
    if word == "send":
        if sum(there.values()) == c:
            return None
        there["new"] += 1
    elif word in ("drop", "bring", "double"):
        if there[named] == 0:
            return None
        there[named] -= 1
    else:
        if back[named] == 0:
            return None
        back[named] -= 1
    if word == "double":
        if sum(there.values()) + 1 == c:
            return None
        there[named] += 2
    if word == "repeat":
        if sum(back) + 1 == d:
            return None
        back[named] += 2
    if word == "bring":
        borne = bit if named == "new" else BIT_OF_OLD[named]
        sort = "new" if named == "new" else "old"
        if borne == other:
            lot = None
        else:
            lot = (sort, lot[1] + 1) if lot and lot[0] == sort else (sort, 1)
            if lot[1] == p:
                handed = True
                if sort == "old":
                    wrong = "made"
                elif done:
                    wrong = "twice"
                other, lot, done = 1 - other, None, done or sort == "new"
        if borne == other and sum(back) < d:
            back[borne] += 1
    if word == "hear" and named == bit:
        heard += 1
        if heard == q:
            ended = True
            wrong = None if done else "lost"
            there[("zero", "one")[bit]] += there["new"]
            there["new"] = 0
            lot = ("old", lot[1]) if lot else None
            bit, heard, done = 1 - bit, 0, False
    there = (there["new"], there["zero"], there["one"])
    return (((bit, heard), (other, lot, done), there, tuple(back)), wrong, ended, handed)


def walk(link, contents, events):
    """(contents, wrong steps, turns ended, letters handed out) of a run, None if it is none."""
    wrongs, turns, letters = [], 0, []
    for event in events:
        told = step(link, contents, event)
        if told is None:
            return None
        contents, wrong, ended, handed = told
        if wrong:
            wrongs.append(wrong)
        if handed:
            letters.append(turns if event[1] == "new" else None)
        turns += ended
    return (contents, wrongs, turns, letters)


def walk_far(link, contents, far):
    """(contents, wrong steps, turns ended, lots handed out) of a far run, event by event; None if it is none."""
    wrongs, turns, lots = [], 0, 0
    for events, many in far:
        told = walk(link, contents, [event for _ in range(many) for event in events])
        if told is None or told[2] > 1 or len(told[3]) > 1:
            return None
        contents = told[0]
        wrongs += told[1]
        turns += told[2]
        lots += len(told[3])
    return (contents, wrongs, turns, lots)


def lists_in(value):
    """All list objects within a value."""
    found = [value] if isinstance(value, list) else []
    if isinstance(value, (list, tuple)):
        for item in value:
            found += lists_in(item)
    return found


def shares_lists(*values):
    """Whether a list object occurs twice within some values."""
    found = [id(one) for value in values for one in lists_in(value)]
    return len(found) != len(set(found))


def deep(levels):
    value = []
    for _ in range(levels):
        value = [value]
    return value


ODD_VALUES = [
    None, True, False, 0, 1, 2, -1, 10 ** 29, "", "send", "zero", "3 2 4 4", [], (), {}, [()], ((),), {"send": 1},
    [None], (None,), ("send", "send"), (("send",),), deep(29), InvalidNumber(3), ((), (), (), ()), (1, 1, 1),
    [1, 1, 1, 1], LiveLink((1, 1, 1, 1), ((0, 0), (1, None, False), (0, 0, 0), (0, 0))),
]
BAD_LINKS = ODD_VALUES + [
    (0, 1, 1, 1), (1, 0, 1, 1), (1, 1, 0, 1), (1, 1, 1, 0), (1, 1, 1, -1), (True, 1, 1, 1), (1, 1, 1, True),
    (1, 1, 1, 1, 1), ("1", 1, 1, 1), (1, None, 1, 1),
]
# For the link (3, 2, 4, 4).
BAD_CONTENTS = ODD_VALUES + [
    [(0, 2), (1, ("old", 3), True), (1, 0, 2), (0, 1)],
    ([0, 2], (1, ("old", 3), True), (1, 0, 2), (0, 1)),
    ((0, 2), [1, ("old", 3), True], (1, 0, 2), (0, 1)),
    ((0, 2), (1, ["old", 3], True), (1, 0, 2), (0, 1)),
    ((0, 2), (1, ("old", 3), True), [1, 0, 2], (0, 1)),
    ((0, 2), (1, ("old", 3), True), (1, 0, 2), [0, 1]),
    ((0, 2), (1, ("old", 3), True), (1, 0, 2)),
    ((0, 2), (1, ("old", 3), True), (1, 0, 2), (0, 1), ()),
    ((2, 2), (1, ("old", 3), True), (1, 0, 2), (0, 1)),
    ((False, 2), (1, ("old", 3), True), (1, 0, 2), (0, 1)),
    ((0, 4), (1, ("old", 3), True), (1, 0, 2), (0, 1)),
    ((0, -1), (1, ("old", 3), True), (1, 0, 2), (0, 1)),
    ((0, True), (1, ("old", 3), True), (1, 0, 2), (0, 1)),
    ((0,), (1, ("old", 3), True), (1, 0, 2), (0, 1)),
    ((0, 2, 0), (1, ("old", 3), True), (1, 0, 2), (0, 1)),
    ((0, 2), (-1, ("old", 3), True), (1, 0, 2), (0, 1)),
    ((0, 2), (True, ("old", 3), True), (1, 0, 2), (0, 1)),
    ((0, 2), (1, ("old", 0), True), (1, 0, 2), (0, 1)),
    ((0, 2), (1, ("old", 4), True), (1, 0, 2), (0, 1)),
    ((0, 2), (1, ("old", True), True), (1, 0, 2), (0, 1)),
    ((0, 2), (1, ("zero", 1), True), (1, 0, 2), (0, 1)),
    ((0, 2), (1, ("old",), True), (1, 0, 2), (0, 1)),
    ((0, 2), (1, ("old", 3, 3), True), (1, 0, 2), (0, 1)),
    ((0, 2), (1, (), True), (1, 0, 2), (0, 1)),
    ((0, 2), (1, (None, 1), True), (1, 0, 2), (0, 1)),
    ((0, 2), (1, (["new"], 1), True), (1, 0, 2), (0, 1)),
    ((0, 2), (0, ("new", 1), True), (1, 0, 2), (0, 1)),
    ((0, 2), (1, False, True), (1, 0, 2), (0, 1)),
    ((0, 2), (1, ("old", 3), 1), (1, 0, 2), (0, 1)),
    ((0, 2), (1, ("old", 3), None), (1, 0, 2), (0, 1)),
    ((0, 2), (1, ("old", 3)), (1, 0, 2), (0, 1)),
    ((0, 2), (1, ("old", 3), True, True), (1, 0, 2), (0, 1)),
    ((0, 2), (1, ("old", 3), True), (1, 1, 2), (0, 1)),
    ((0, 2), (1, ("old", 3), True), (-1, 0, 2), (0, 1)),
    ((0, 2), (1, ("old", 3), True), (True, 0, 2), (0, 1)),
    ((0, 2), (1, ("old", 3), True), (1, 2), (0, 1)),
    ((0, 2), (1, ("old", 3), True), (1, 0, 2, 0), (0, 1)),
    ((0, 2), (1, ("old", 3), True), (1, 0, 2), (2, 1)),
    ((0, 2), (1, ("old", 3), True), (1, 0, 2), (-1, 1)),
    ((0, 2), (1, ("old", 3), True), (1, 0, 2), (0, True)),
    ((0, 2), (1, ("old", 3), True), (1, 0, 2), (0,)),
    ((0, 2), (1, ("old", 3), True), (1, 0, 2), (0, 1, 0)),
    ((0, 2), (1, ("old", 3), True), (1, 0, 2), (0, "1")),
]
BAD_BITS = [value for value in ODD_VALUES if value not in (0, 1) or isinstance(value, bool)] + ["0", (0,)]
BAD_EVENTS = ODD_VALUES + [
    ["send"], ("Send",), ("send", 0), ("send", "new"), ("drop",), ("drop", "old"), ("drop", 0), ("drop", "two"),
    ("bring",), ("bring", None), ("bring", ["new"]), ("bring", "new", "new"), ("miss",), ("miss", 2), ("miss", True),
    ("miss", "zero"), ("hear", 2), ("hear", -1), ("hear", False), ("hear", "0"), ("hear", 0, 0), (0, "hear"),
    ("turn", 0), ["hear", 0], (["send"],), ("double", "two"), ("repeat", True), ("repeat", 2), ("double",), ("repeat",),
]
BAD_RUNS = [value for value in ODD_VALUES if value != []] + [
    (("send",),), [["send"]], [("send",), ("hear", 2)], [("send",), None], [("hear", True)], ("send",),
    [([("send",)], 1)],
]
BAD_FARS = [value for value in ODD_VALUES if value != []] + [
    [("send",)], [(("send",), 2)], [((("send",),), 2)], [([("send",)], -1)], [([("send",)], True)],
    [([("send",)], None)], [([("send",)], "2")], [([], 1)], [[[("send",)], 1]], [([("send",)],)],
    [([("send",)], 1, 1)], ([("send",)], 1), (([("send",)], 1),), [([("send",)], 1), ([("hear", False)], 1)],
    [([("send",), ["send"]], 1)], [([("send",)], 1), None],
]


def check_errors(case, function, names, good, wrong):
    """Each argument wrong in its turn, then each two at once: the first one is told, by the argument itself.

    wrong has, for each parameter, None or a tuple of an error and a list of values for which it is raised.
    """
    function(*good)
    function(**dict(zip(names, good)))
    for place, told in enumerate(wrong):
        if told is None:
            continue
        error, values = told
        for value in values:
            args = list(good)
            args[place] = value
            expect(case, function, names, args, error, value)
        for later in range(place + 1, len(wrong)):
            if wrong[later] is None:
                continue
            for value, other in itertools.product(values[-3:], wrong[later][1][-3:]):
                args = list(good)
                args[place], args[later] = value, other
                expect(case, function, names, args, error, value)


def expect(case, function, names, args, error, value):
    """A call, by position and by names, raises just this error with the very value, and changes nothing."""
    before = copy.deepcopy(args)
    for call in (lambda: function(*args), lambda: function(**dict(zip(names, args)))):
        with case.assertRaises(error) as caught:
            call()
        case.assertIs(caught.exception.__class__, error)
        case.assertIs(caught.exception.value, value, (function, args))
        case.assertEqual(told(args), told(before))


def told(value):
    """What a value shows; errors have no == of their own, and live links show nothing by themselves."""
    if isinstance(value, LiveLink):
        return "live " + told([value.link(), value.contents(), value.log()])
    if isinstance(value, (list, tuple)):
        return value.__class__.__name__ + "(" + ", ".join(told(one) for one in value) + ")"
    return repr(value)


def check_unchanged(case, function, *args):
    """A call changes none of its arguments, tells the same again, and hands out lists of its own alone."""
    before = copy.deepcopy(args)
    first = function(*args)
    case.assertEqual(args, before)
    second = function(*copy.deepcopy(args))
    case.assertEqual(first, second)
    third = function(*args)
    case.assertFalse(shares_lists(first))
    case.assertFalse(shares_lists(first, third))
    for mine, theirs in itertools.product(lists_in(first), lists_in(list(args))):
        case.assertIsNot(mine, theirs)
    return first


def harms(link, doubling=False, most=9):
    """The greatest number of wrong steps of all runs, for all contents of a small link, by going through them all."""
    behind, ahead = {}, {}
    for contents in all_contents(link):
        behind[contents] = []
        for event in all_events(doubling):
            told = step(link, contents, event)
            if told is not None:
                behind[contents].append((told[0], told[1]))
                ahead.setdefault(told[0], []).append(contents)
    found = {contents: 0 for contents in behind}
    for many in range(1, most + 1):
        # Those with so many: a wrong step into those with one less, and all from which these can be reached.
        reached = [
            contents for contents, steps in behind.items()
            if any(wrong and found[later] >= many - 1 for later, wrong in steps)]
        seen = set(reached)
        while reached:
            for other in ahead.get(reached.pop(), []):
                if other not in seen:
                    seen.add(other)
                    reached.append(other)
        if not seen:
            break
        for contents in seen:
            found[contents] = many
    return found


def some_contents_of(link, draw):
    """Any contents of a link of whatever sizes, often at its bounds."""
    c, d, p, q = link

    def count(most):
        return draw.choice([0, most, draw.randint(0, most), min(1, most)])

    bit, other = draw.randint(0, 1), draw.randint(0, 1)
    lot = None
    if p > 1 and draw.random() < 0.7:
        lot = (draw.choice(["new", "old"] if bit != other else ["old"]), max(1, count(p - 1)))
    first = count(c)
    second = count(c - first)
    there = [first, second, count(c - first - second)]
    back = [count(d)]
    back.append(count(d - back[0]))
    draw.shuffle(there)
    draw.shuffle(back)
    return ((bit, count(q - 1)), (other, lot, draw.random() < 0.5), tuple(there), tuple(back))


def kinds_for_ever(link, doubling=False):
    """The wrong kinds that come in rounds, for all contents of a small link.

    They come in the parts whose contents lead to each other; these are found by Tarjan's way, with a stack of its own.
    """
    steps = {}
    for contents in all_contents(link):
        told = [step(link, contents, event) for event in all_events(doubling)]
        steps[contents] = [(one[0], one[1]) for one in told if one is not None]
    number, low, part, kinds, stack = {}, {}, {}, {}, []
    for root in steps:
        if root in number:
            continue
        number[root] = low[root] = len(number)
        stack.append(root)
        work = [(root, iter(steps[root]))]
        while work:
            contents, further = work[-1]
            for later, _ in further:
                if later not in number:
                    number[later] = low[later] = len(number)
                    stack.append(later)
                    work.append((later, iter(steps[later])))
                    break
                if later not in part:
                    low[contents] = min(low[contents], number[later])
            else:
                work.pop()
                if work:
                    low[work[-1][0]] = min(low[work[-1][0]], low[contents])
                if low[contents] == number[contents]:
                    members = [stack.pop()]
                    while members[-1] != contents:
                        members.append(stack.pop())
                    for one in members:
                        part[one] = number[contents]
                    # Parts that are led to are done already: what comes in theirs comes from here, too.
                    found = set()
                    for one in members:
                        for later, wrong in steps[one]:
                            if part[later] != part[one]:
                                found |= kinds[part[later]]
                            elif wrong:
                                found.add(wrong)
                    kinds[number[contents]] = found
    return {contents: sorted(kinds[part[contents]]) for contents in steps}


BAD_COUNTS = [value for value in ODD_VALUES if isinstance(value, bool) or not isinstance(value, int) or value < 0]
BAD_COUNTS += ["1", (1,), -10 ** 29]
BAD_BOOLEANS = [value for value in ODD_VALUES if not isinstance(value, bool)] + ["True", (True,)]
BAD_HARMS = [4, 10 ** 20] + BAD_COUNTS
WRONG_KINDS = ["lost", "made", "twice"]
BAD_KINDS = ODD_VALUES + ["Lost", "los", "lost ", "right", ["lost"], ("made",)]


def some_sound_links(draw):
    """Sound links of up to 30 figures, tight ones among them."""
    while True:
        c, d = [draw.choice([1, 2, 10 ** 29, draw.randint(1, 10 ** 29)]) for _ in range(2)]
        yield (c, d, c + draw.choice([0, 0, 1, 10 ** 29]), d + draw.choice([0, 0, 1, 10 ** 29]))


def in_order(contents):
    """A key by which contents are in order, None ahead of all lots."""
    sender, (bit, lot, done), there, back = contents
    return (sender, (bit, (lot is not None, lot or ()), done), there, back)


class Steps:
    """All steps of all contents of a small link, to look back from where they lead."""

    def __init__(self, link):
        self.steps, self.plain = {}, {}
        for contents in all_contents(link):
            told = [step(link, contents, event) for event in all_events()]
            self.steps[contents] = [(one[0], one[1], one[2]) for one in told if one is not None]
        for contents, rows in self.steps.items():
            for later, wrong, ended in rows:
                if not wrong and not ended:
                    self.plain.setdefault(later, []).append(contents)

    def leading(self, into, plain=None):
        """All contents with a step, for which into(later, wrong, ended) is true, behind steps of no account."""
        reached = [contents for contents, rows in self.steps.items() if any(into(*row) for row in rows)]
        seen = set(reached)
        while reached:
            for other in (plain or self.plain).get(reached.pop(), []):
                if other not in seen:
                    seen.add(other)
                    reached.append(other)
        return seen


def all_fates(link, most=5):
    """The fates of all contents of a small link, by going through all steps."""
    told, ahead = Steps(link), {}
    for contents, rows in told.steps.items():
        for later, wrong, _ in rows:
            if not wrong:
                ahead.setdefault(later, []).append(contents)
    found, level = {contents: [[]] for contents in told.steps}, {(): set(told.steps)}
    while level:
        longer = {}
        for fate, those in level.items():
            for kind in WRONG_KINDS:
                seen = told.leading(lambda later, wrong, _: wrong == kind and later in those, ahead)
                if seen and len(fate) < most:
                    longer[(kind,) + fate] = seen
        for fate, those in longer.items():
            for contents in those:
                found[contents].append(list(fate))
        level = longer
    return {contents: sorted(rows) for contents, rows in found.items()}


def quiet_ends(link, turns):
    """A dict of sets of contents: of (many, kind) those that have runs which end so many turns with just one wrong
    step, of the kind, or with none, for the kind None; all by going through all steps."""
    told, found = Steps(link), {}
    for many in range(turns + 1):
        for kind in [None] + WRONG_KINDS:
            if many == 0 and kind is None:
                found[(0, None)] = set(told.steps)
                continue

            def leads(later, wrong, ended):
                if wrong is not None and wrong != kind:
                    return False
                left = (many - (1 if ended else 0), None if wrong else kind)
                return left != (many, kind) and later in found.get(left, ())

            found[(many, kind)] = told.leading(leads)
    return found


WORD_LISTS = [
    [], ["clear"], ["clear", "forget"], ["clear", "forget", "turn"], ["clear", "turn"], ["forget"], ["forget", "turn"],
    ["turn"],
]


def mended(contents, mending):
    """The contents behind a mending, word by word, one thing taken out after the other."""
    (bit, heard), (other, lot, done), there, back = contents
    there, back = list(there), list(back)
    for word in mending[0]:
        if word == "forget":
            heard = 0
        elif word == "clear":
            lot = None
        else:
            other, lot = 1 - other, None
    for place, many in enumerate(mending[1]):
        wire, at = (there, 1 + place) if place < 2 else (back, place - 2)
        wire[at] -= many
    return ((bit, heard), (other, lot, done), tuple(there), tuple(back))


def all_mendings(contents, most):
    """All mendings of contents of at most so much cost, in order."""
    lying = contents[2][1:] + contents[3]
    takings = [
        taking for taking in itertools.product(*[range(min(many, most) + 1) for many in lying]) if sum(taking) <= most]
    return [(words, taking) for words in WORD_LISTS for taking in takings if len(words) + sum(taking) <= most]


def price_of(mending):
    return len(mending[0]) + sum(mending[1])


def seen(contents):
    """The view in which all is seen."""
    (bit, heard), (other, lot, _), (new, zeros, ones), back = contents
    there = [zeros, ones]
    there[bit] += new
    return ((bit, heard), (other, lot[1] if lot else 0), tuple(there), back)


def look_alike(view, contents):
    return all(one is None or one == told for one, told in zip(view, seen(contents)))


def all_views(link):
    """All views of a small link."""
    c, d, p, q = link
    senders = [None] + list(itertools.product((0, 1), range(q)))
    receivers = [None] + list(itertools.product((0, 1), range(p)))
    return list(itertools.product(senders, receivers, [None] + counts_up_to(2, c), [None] + counts_up_to(2, d)))


# For the link (3, 2, 4, 4).
BAD_VIEWS = ODD_VALUES + [
    [None, None, None, None], (None, None, None), (None,) * 5, ((0, 4), None, None, None), ((0, -1), None, None, None),
    ((2, 0), None, None, None), ((True, 0), None, None, None), ((0, False), None, None, None),
    ([0, 0], None, None, None), ((0,), None, None, None), ((0, 0, 0), None, None, None), (0, None, None, None),
    (None, (0, 4), None, None), (None, (0, -1), None, None), (None, (2, 1), None, None), (None, (False, 1), None, None),
    (None, (0, True), None, None), (None, [0, 1], None, None), (None, (0, None), None, None),
    (None, (0, ("old", 1)), None, None), (None, (0, 1, False), None, None), (None, None, (2, 2), None),
    (None, None, (-1, 2), None), (None, None, (True, 2), None), (None, None, [1, 2], None), (None, None, (1,), None),
    (None, None, (1, 1, 1), None), (None, None, None, (2, 1)), (None, None, None, (0, -1)),
    (None, None, None, (0, True)), (None, None, None, [0, 1]), (None, None, None, (0, 1, 0)),
    (None, None, None, "01"), ((0, 0), (0, None), (0, 0), (0, 0)), (False, None, None, None),
]


KINDS_OF_FAULTS = ["copy", "answer", "turn", "swap", "sender", "receiver", "heard", "lot"]


def all_faults(link):
    """All faults of a small link, in order, of all numbers that can befall its contents."""
    c, d, p, q = link
    found = [(kind, bit) for kind in ("copy", "answer", "swap") for bit in (0, 1)]
    found += [("turn", name) for name in ("new", "zero", "one")] + [("sender",), ("receiver",)]
    found += [("heard", many) for many in range(q)] + [("lot", many) for many in range(p)]
    return sorted(found)


def befallen(link, contents, fault):
    """The contents behind a fault, None if it can't befall them; row by row from the table."""
    c, d, p, q = link
    (bit, heard), (other, lot, done), (new, zeros, ones), (nays, yeas) = contents
    there, back = {"new": new, "zero": zeros, "one": ones}, {0: nays, 1: yeas}
    kind, what = fault[0], fault[-1]
    if kind == "copy":
        if sum(there.values()) >= c:
            return None
        there[("zero", "one")[what]] += 1
    elif kind == "answer":
        if sum(back.values()) >= d:
            return None
        back[what] += 1
    elif kind == "turn":
        if there[what] == 0:
            return None
        there[what] -= 1
        borne = bit if what == "new" else BIT_OF_OLD[what]
        there[("one", "zero")[borne]] += 1
    elif kind == "swap":
        if back[what] == 0:
            return None
        back[what] -= 1
        back[1 - what] += 1
    elif kind == "sender":
        there[("zero", "one")[bit]] += there["new"]
        there["new"], bit = 0, 1 - bit
        if lot:
            lot = ("old", lot[1])
    elif kind == "receiver":
        other, lot = 1 - other, None
    elif kind == "heard":
        if what >= q:
            return None
        heard = what
    else:
        if what >= p:
            return None
        lot = ("old", what) if what else None
    there = (there["new"], there["zero"], there["one"])
    return ((bit, heard), (other, lot, done), there, (back[0], back[1]))


def is_fault_item(item):
    return isinstance(item[0], str)


def walk_faulty(link, contents, items):
    """(contents, wrong steps, faults as tuples (contents ahead, contents behind), what comes) of a faulty run.

    What comes is a list of "fault", "lot" and "turn", in the order in which they do. None if it is none.
    """
    wrongs, faults, come = [], [], []
    for item in items:
        if is_fault_item(item):
            later = befallen(link, contents, item)
            if later is None:
                return None
            faults.append((contents, later))
            come.append("fault")
            contents = later
            continue
        ahead = len(come)
        for _ in range(item[1]):
            for event in item[0]:
                told = step(link, contents, event)
                if told is None:
                    return None
                contents, wrong, ended, handed = told
                wrongs += [wrong] if wrong else []
                come += ["turn"] * ended + ["lot"] * handed
        if come[ahead:].count("turn") > 1 or come[ahead:].count("lot") > 1:
            return None
    return (contents, wrongs, faults, come)


def some_items(link, contents, draw, most, kinds=None):
    """A faulty run of contents of a small link, drawn; with faults of some kinds."""
    items = []
    for _ in range(draw.randint(0, most)):
        if draw.random() < 0.3:
            found = [fault for fault in all_faults(link) if befallen(link, contents, fault) is not None]
            found = [fault for fault in found if kinds is None or fault[0] in kinds]
            item = draw.choice(found) if found else ([("send",)], 0)
        else:
            events, now = [], contents
            for _ in range(draw.randint(1, 4)):
                found = [event for event in all_events() if step(link, now, event)]
                # Few drops and misses, so that something comes of what is sent.
                found = [event for event in found if event[0] not in ("drop", "miss")] or found
                if found:
                    events.append(draw.choice(found))
                    now = step(link, now, events[-1])[0]
            item = (events, draw.choice([1, 1, 1, 2, 3])) if events else ([("send",)], 0)
        told = walk_faulty(link, contents, [item])
        if told is not None:
            items.append(item)
            contents = told[0]
    return items


BAD_FAULTY = [value for value in BAD_FARS if value not in ([("send",)], [([("send",)], 1), None])] + [
    [("send",)], ("sender",), ["sender"], [("sender",), None], [("sender", 0)], [("copy", 2)], [("copy", True)],
    [["copy", 0]], [("turn", 0)], [("heard", -1)], [("lot", "1")], [("sender",), ([("send",)], True)], [("lost",)],
]
BAD_KINDS_OF_FAULTS = ODD_VALUES + ["Copy", "lost", "sender ", ["sender"], ("sender",)]
BAD_LISTS_OF_KINDS = [value for value in ODD_VALUES if value != []] + [
    "copy", ("copy",), ["copy", "send"], [["copy"]], ["copy", None], [("sender",)], [0], ["copy", True],
]


def shortest(link):
    """For all contents of a small link: the least numbers of events to the end of a turn, to a right handing out."""
    ahead, found = {}, ({}, {})
    for contents in all_contents(link):
        for event in all_events():
            told = step(link, contents, event)
            if told is None:
                continue
            comes = (told[2], told[3] and event[1] == "new" and told[1] is None)
            for least, come in zip(found, comes):
                if come:
                    least[contents] = 1
            ahead.setdefault(told[0], []).append((contents,) + comes)
    for place, least in enumerate(found):
        front = list(least)
        while front:
            further = []
            for contents in front:
                for row in ahead.get(contents, ()):
                    if not row[1 + place] and row[0] not in least:
                        least[row[0]] = least[contents] + 1
                        further.append(row[0])
            front = further
    return found


def shortest_runs(link, contents, least, place, most=40):
    """The first ones, in order, so many at most, of the shortest runs; to the end of a turn, or to a handing out."""
    found, work = [], [([], contents)]
    while work and len(found) < most:
        run, now = work.pop()
        for event in reversed(all_events()):
            told = step(link, now, event)
            if told is None:
                continue
            come = told[2] if place == 0 else told[3] and event[1] == "new" and told[1] is None
            if come and least[now] == 1:
                work.append((run + [event], None))
            elif not come and least[told[0]] == least[now] - 1:
                work.append((run + [event], told[0]))
        while work and work[-1][1] is None:
            found.append(work.pop()[0])
    return found[:most]


def some_web(draw, links, most=5):
    """A web with a few ways, drawn; at times without any, with two hosts in both directions, or with great numbers."""
    hosts = draw.choice([1, 2, 3, 3, 4, 5, 10 ** 29])
    pairs = [(one, other) for one in range(min(hosts, 6)) for other in range(min(hosts, 6)) if one != other]
    pairs = sorted(draw.sample(pairs, min(len(pairs), draw.randint(0, most))))
    return (hosts, [(one, other, draw.choice(links)) for one, other in pairs])


def some_web_run(web, contents, draw, many):
    """A web run of contents, drawn: more sendings, bringings and hearings than what only loses."""
    run, now = [], list(contents)
    for _ in range(many if web[1] else 0):
        number = draw.randrange(len(web[1]))
        link = web[1][number][2]
        found = [event for event in all_events() if step(link, now[number], event)]
        lively = [event for event in found if event[0] not in ("drop", "miss")]
        event = draw.choice(lively if lively and draw.random() < 0.9 else found)
        now[number] = step(link, now[number], event)[0]
        run.append((number, event))
    return run


ONE = (1, 1, 1, 1)
BAD_WEBS = ODD_VALUES + [
    [3, [(0, 1, ONE)]], (3, ((0, 1, ONE),)), (3, [[0, 1, ONE]]), (3, [(0, 1)]), (3, [(0, 1, ONE, ONE)]), (0, []),
    (-1, []), (True, []), ("3", []), (3, None), (3, [None]), (3, [(0, 3, ONE)]), (3, [(3, 0, ONE)]),
    (3, [(0, -1, ONE)]), (3, [(0, True, ONE)]), (3, [(False, 1, ONE)]), (3, [(0, 0, ONE)]), (3, [(0, 1, (1, 1, 1, 0))]),
    (3, [(0, 1, (True, 1, 1, 1))]), (3, [(0, 1, list(ONE))]), (3, [(0, 1, ONE), (0, 1, ONE)]),
    (3, [(0, 1, ONE), (0, 1, (2, 1, 2, 1))]), (3, [(1, 2, ONE), (0, 1, ONE)]), (3, [(0, 2, ONE), (0, 1, ONE)]),
    (1, [(0, 1, ONE)]), (3, [], []), (3,), (3, {}), ([], 3),
]


def is_whole_number(value):
    return isinstance(value, int) and not isinstance(value, bool)


def word_step(link, words, event):
    """(words, mark, turn ended) behind an event of words, None if it is not possible; the new turn's letter is None.

    A mark is None, or a tuple of what came of a letter and of the letter.
    """
    c, d, p, q = link
    (bit, letter, heard), (other, lot, done), there, back = words
    there, back, mark, ended = list(there), list(back), None, False
    word = event[0]
    if word == "send":
        if len(there) == c:
            return None
        there.append((bit, letter))
    elif word in ("drop", "bring"):
        if event[1] not in there:
            return None
        there.remove(event[1])
    else:
        if back[event[1]] == 0:
            return None
        back[event[1]] -= 1
    if word == "bring":
        borne, told = event[1]
        if borne == other:
            lot = None
        else:
            lot = (told, lot[1] + 1 if lot and lot[0] == told else 1)
            if lot[1] == p:
                if event[1] != (bit, letter):
                    mark = ("made", told)
                elif done:
                    mark = ("twice", told)
                else:
                    mark, done = ("right", told), True
                other, lot = borne, None
        if borne == other and sum(back) < d:
            back[borne] += 1
    if word == "hear" and event[1] == bit:
        heard += 1
        if heard == q:
            mark = None if done else ("lost", letter)
            bit, letter, heard, done, ended = 1 - bit, None, 0, False, True
    return (((bit, letter, heard), (other, lot, done), sorted(there), tuple(back)), mark, ended)


def with_letter(words, letter):
    """Word contents at the beginning of a turn, with its letter."""
    return ((words[0][0], letter, words[0][2]),) + words[1:]


def all_copies(letters):
    return [(bit, letter) for bit in (0, 1) for letter in letters]


def all_word_events(letters):
    copies = all_copies(letters)
    found = [(word, copy) for word in ("drop", "bring") for copy in copies]
    return sorted([("send",)] + found + [(word, bit) for word in ("miss", "hear") for bit in (0, 1)])


def all_words(link, letters):
    """All word contents of a small link over some letters."""
    c, d, p, q = link
    found = []
    lots = [None] + [(letter, many) for letter in letters for many in range(1, p)]
    wires = [list(wire) for many in range(c + 1) for wire in itertools.combinations_with_replacement(
        all_copies(letters), many)]
    for bit, letter, heard, other, lot, done in itertools.product(
            (0, 1), letters, range(q), (0, 1), lots, (False, True)):
        for there, back in itertools.product(wires, counts_up_to(2, d)):
            found.append(((bit, letter, heard), (other, lot, done), there, back))
    return found


def some_words(link, draw, letters):
    """Any word contents of a link, drawn."""
    c, d, p, q = link
    there = sorted(draw.choice(all_copies(letters)) for _ in range(draw.choice([0, c, draw.randint(0, c)])))
    one = draw.randint(0, d)
    back = [one, draw.choice([0, d - one, draw.randint(0, d - one)])]
    draw.shuffle(back)
    lot = None
    if p > 1 and draw.random() < 0.6:
        lot = (draw.choice(letters), draw.choice([p - 1, draw.randint(1, p - 1)]))
    return (
        (draw.randint(0, 1), draw.choice(letters), draw.choice([0, q - 1, draw.randint(0, q - 1)])),
        (draw.randint(0, 1), lot, draw.random() < 0.5), there, tuple(back))
