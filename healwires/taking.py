"""Mendings that take out alone, or change memories alone."""

from healwires.harm import harm_by, harm_of, need_sound_contents, signs_of
from healwires.mending import WORD_LISTS, by_taking, by_words, need_to_mend, surplus, takings_of
from healwires.ways import EITHER, of_pair


def words_and_harms(link, contents):
    """The tuples of all lists of words, in order, and of the harm behind them."""
    return [(list(words), harm_of(link, by_words(contents, words))) for words in WORD_LISTS]


def taking_cost(link, contents, most):
    """The least cost of a taking behind which the harm is so much at most, None if there is none."""
    need_to_mend(link, contents, most)
    costs = [
        sum(taking) for taking in takings_of(link, contents) if harm_of(link, by_taking(contents, taking)) <= most
    ]
    return min(costs, default=None)


def how_many_takings(link, contents, most):
    """How many of all takings bring the harm to so much at most."""
    need_to_mend(link, contents, most)
    sent, own, old, back = contents[0][0], contents[1][0], contents[2][1:], contents[3]
    even, done, _, _ = signs_of(link, contents)
    answered, copied = surplus(link, contents)
    # Fewer than these leave enough; of the other bits anything can be taken.
    answers, copies = (answered, back[sent] + 1), (copied, old[1 - own] + 1)
    found = sum([
        of_pair(answers, by_answers) * of_pair(copies, by_old)
        for by_answers in EITHER for by_old in EITHER if harm_by(even, done, by_answers, by_old) <= most
    ])
    return found * (back[1 - sent] + 1) * (old[own] + 1)


def harm_by_words(link, contents):
    """The tuples of all lists of words, in order, and of the harm behind the mending that takes nothing out."""
    need_sound_contents(link, contents)
    return words_and_harms(link, contents)


def words_for(link, contents, most):
    """The first, in order, of the shortest lists of words that bring the harm to so much at most; None without any."""
    need_to_mend(link, contents, most)
    enough = [words for words, many in words_and_harms(link, contents) if many <= most]
    return min(enough, key=len, default=None)
