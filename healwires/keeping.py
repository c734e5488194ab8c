"""Right turns, begun with empty wires, behind which copies or answers are kept, while one place of a wire goes on."""

from healwires.endless import often, right_turn, sent_over
from healwires.moves import copy_of


def copies_kept(link, bit, many):
    """A turn with a bit, and the next one to its handing out, with so many old copies of the bit kept.

    There are fewer than the wire there holds. They bear the bit unlike the receiver's in the end.
    """
    return often([("send",)], many) + right_turn(link, bit) + sent_over(link[2])


def turn_kept(link, bit, many):
    """A turn with a bit, with so many answers of it kept, fewer than the wire back holds."""
    return sent_over(link[2] + many - 1) + often([("send",), ("bring", "new"), ("hear", bit)], link[3])


def answers_kept(link, bit, many):
    """A turn with a bit, and the next one, with so many answers of the bit kept, fewer than the wire back holds."""
    return turn_kept(link, bit, many) + right_turn(link, 1 - bit)


def ended_with_more(bit):
    """The end of a turn with a bit by its last answer, behind which one further answer of the bit is put in.

    What puts it in is a copy that was sent ahead of the end: the receiver has its bit still.
    """
    return [([("send",), ("hear", bit), ("bring", copy_of(bit))], 1)]


def back_filled(link, bit):
    """A turn with a bit behind which the wire back is full of its answers, where it holds just q."""
    many = link[3] - 1
    heard = often([("send",), ("bring", "new"), ("hear", bit)], many)
    return sent_over(link[2] + many - 1) + heard + sent_over(1) + ended_with_more(bit)


def both_answers_kept(link, bit):
    """A turn with a bit, and the next one, with q - 1 answers of the bit kept, and one of the other bit."""
    many, other = link[3] - 1, 1 - bit
    heard = often([("hear", other), ("send",), ("bring", "new")], many)
    return turn_kept(link, bit, many) + sent_over(link[2]) + heard + ended_with_more(other)
