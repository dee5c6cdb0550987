"""A watch that is changed and asked, and whose changes are taken back (points [70] to [75])."""

from knownlate.checks import check_fault, check_watch
from knownlate.errors import BadWord, NothingDone
from knownlate.late import late
from knownlate.values import is_row
from knownlate.watches import Watch


class Post:
    """A machine and a watch of its own.

    `_done` is the list of the changes that are not taken back: (word, its sight before), or (None, watch before).
    """

    def __init__(self, machine):
        self._machine = machine
        self._watch = Watch()
        self._done = []

    def __getitem__(self, at):
        return self._watch[at]

    def __setitem__(self, at, worth):
        before = self._watch[at]
        self._watch[at] = worth
        self._done.append((at, before))

    def __iter__(self):
        # Without this, Python would iterate by asking for the words 0, 1, 2 and so on.
        raise TypeError("a post is not iterated over")

    @property
    def watch(self):
        """A copy of the watch."""
        return self._watch.copy()

    @watch.setter
    def watch(self, value):
        self.follow(value)

    def follow(self, watch):
        """Gives the post a copy of another watch."""
        check_watch(watch)
        self._done.append((None, self._watch))
        self._watch = watch.copy()

    def late(self, fault):
        """How late at most the watch knows the fault, as the function `late` tells it."""
        return late(self._machine, [self._watch], fault)

    def undo(self):
        """Takes back the last change that is not taken back yet."""
        if len(self._done) == 0:
            raise NothingDone()
        word, before = self._done.pop()
        if word is None:
            self._watch = before
        else:
            self._watch[word] = before

    def trial(self):
        """What a `with` statement takes, at whose end all changes of its block are taken back."""
        return Trial(self)

    def rehearse(self, work):
        """What `work(post)` returns; all changes that it made are taken back."""
        with Trial(self) as inner:
            return work(inner)

    def tried(self, changes, fault):
        """How late the fault is known after each of the changes (word, sight), which are all taken back."""
        check_fault(self._machine, fault)
        if not is_row(changes):
            raise BadWord(changes)
        found = []
        with Trial(self) as inner:
            for item in changes:
                if not isinstance(item, tuple) or len(item) != 2:
                    raise BadWord(item)
                word, sight = item
                inner[word] = sight
                found.append(inner.late(fault))
        return found


class Trial:
    """Keeps the watch of a post and the list of its changes from the begin of a block to its end."""

    def __init__(self, post):
        self._post = post
        self._watch = None
        self._done = []

    def __enter__(self):
        post = self._post
        self._watch = post._watch
        self._done = post._done
        # The block changes a copy and a list of its own, so that nothing has to be taken back change by change.
        post._watch = post._watch.copy()
        post._done = []
        return post

    def __exit__(self, kind, value, trace):
        post = self._post
        post._watch = self._watch
        post._done = self._done
