"""A live link, which keeps what lies in it, what was done, and what went wrong."""

from healwires.contents import fits_link, is_event, is_far_run, is_tuple_of, need_link, need_sound
from healwires.errors import InvalidContents, InvalidDeed, NothingToRedo, NothingToUndo
from healwires.harm import harm_of
from healwires.runs import far_gone, gone_once, turns_of, wrongs_of
from healwires.texts import text_of_contents, told_far


def come_of(link, contents, value):
    """The tuple (contents, marks) behind a deed; None if a value is none that can be done now."""
    if not is_tuple_of(value, 2):
        return None
    word, what = value
    if word == "event":
        told = gone_once(link, contents, [what]) if is_event(what) else None
        return None if told is None else told[:2]
    if word == "run":
        return come_of_far(link, contents, what)
    if word == "read":
        return come_of_far(link, contents, told_far(what)) if isinstance(what, str) else None
    return (what, []) if word == "fault" and fits_link(link, what) else None


def come_of_far(link, contents, value):
    """The tuple (contents, marks) behind a far run; None if a value is none of the contents."""
    return far_gone(link, contents, value) if is_far_run(value) else None


def copied(deed):
    """A deed with lists of its own."""
    if deed[0] != "run":
        return deed
    return ("run", [(list(events), many) for events, many in deed[1]])


class LiveLink:
    """A sound link, what lies in it now, and the deeds that were done, which can be taken back."""

    def __init__(self, link, start):
        need_link(link)
        if not fits_link(link, start):
            raise InvalidContents(start)
        need_sound(link)
        self._link = link
        self._now = start
        # Of each deed: the deed, the contents ahead of it, those behind it, the marks of what it did.
        self._done = []
        self._undone = []

    def __eq__(self, other):
        if not isinstance(other, LiveLink):
            return False
        return self._link == other._link and self._now == other._now and self.log() == other.log()

    def link(self):
        """The link."""
        return self._link

    def contents(self):
        """What lies there now."""
        return self._now

    def told(self):
        """The text of what lies there now."""
        return text_of_contents(self._link, self._now)

    def do(self, deed):
        """Do a deed, and forget what was undone."""
        later, marks = self._come_of(deed)
        self._done.append((copied(deed), self._now, later, marks))
        self._undone = []
        self._now = later

    def undo(self):
        """Take the last deed back that is not taken back yet."""
        if not self._done:
            raise NothingToUndo()
        step = self._done.pop()
        self._undone.append(step)
        self._now = step[1]

    def redo(self):
        """Do again what was taken back last."""
        if not self._undone:
            raise NothingToRedo()
        step = self._undone.pop()
        self._done.append(step)
        self._now = step[2]

    def log(self):
        """The deeds that are done and not taken back, the first one first."""
        return [copied(step[0]) for step in self._done]

    def copy(self):
        """A live link that is equal to this one, with the same to undo and to redo, and goes its own way."""
        other = LiveLink(self._link, self._now)
        other._done = list(self._done)
        other._undone = list(self._undone)
        return other

    def wrongs(self):
        """The wrong steps of all deeds of the log, in the order in which they came."""
        return [wrong for step in self._done for wrong in wrongs_of(step[3])]

    def turns(self):
        """How many turns ended in the deeds of the log."""
        return sum([turns_of(step[3]) for step in self._done])

    def faults(self):
        """How many deeds of the log are faults."""
        return len([step for step in self._done if step[0][0] == "fault"])

    def harm_now(self):
        """The harm of what lies there now."""
        return harm_of(self._link, self._now)

    def harm_after(self, deed):
        """The harm of what would lie there behind a deed that can be done now."""
        return harm_of(self._link, self._come_of(deed)[0])

    def is_safe(self):
        """Whether no run of what lies there now has a wrong step any more."""
        return self.harm_now() == 0

    def _come_of(self, deed):
        """The tuple (contents, marks) behind a deed; whatever can't be done now is refused."""
        told = come_of(self._link, self._now, deed)
        if told is None:
            raise InvalidDeed(deed)
        return told


def is_deed(live, value):
    """Whether a value is a deed that can be done now."""
    if not isinstance(live, LiveLink):
        raise InvalidDeed(live)
    return come_of(live.link(), live.contents(), value) is not None
