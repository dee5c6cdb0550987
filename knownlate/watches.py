"""Watches: which words are seen, and by which sights (points [14] to [21])."""

from knownlate.errors import BadWatch, BadWord
from knownlate.values import is_name, is_row


class Watch:
    """A map from words to sights. Only an assignment to a word, `|=` and `-=` change it."""

    def __init__(self, sights=None):
        if sights is None:
            self._sights = {}
        elif is_sights(sights):
            self._sights = dict(sights)
        else:
            raise BadWatch(sights)

    def __eq__(self, other):
        return isinstance(other, Watch) and self._sights == other._sights

    def __getitem__(self, at):
        if not is_name(at):
            raise BadWord(at)
        return self._sights.get(at)

    def __setitem__(self, at, worth):
        if not is_name(at):
            raise BadWord(at)
        if worth is not None and not is_name(worth):
            raise BadWord(worth)
        if worth is not None:
            self._sights[at] = worth
        elif at in self._sights:
            del self._sights[at]

    def __contains__(self, x):
        return is_name(x) and x in self._sights

    def __len__(self):
        return len(self._sights)

    def __bool__(self):
        return bool(self._sights)

    def __iter__(self):
        # Without this, Python would iterate by asking for the words 0, 1, 2 and so on.
        raise TypeError("a watch is not iterated over")

    def __or__(self, other):
        sights = sights_of_side(other)
        return Watch({**sights, **self._sights})

    def __ror__(self, other):
        sights = sights_of_side(other)
        return Watch({**self._sights, **sights})

    def __and__(self, other):
        return Watch(shared_sights(self._sights, sights_of_side(other)))

    def __rand__(self, other):
        return Watch(shared_sights(self._sights, sights_of_side(other)))

    def __sub__(self, other):
        check_words(other)
        return Watch({word: sight for word, sight in self._sights.items() if word not in other})

    def __ior__(self, other):
        changed = self | other
        self._sights = changed._sights
        return self

    def __isub__(self, other):
        changed = self - other
        self._sights = changed._sights
        return self

    @property
    def words(self):
        """The ascending list of the words that the watch sees."""
        return sorted(list(self._sights))

    @property
    def sights(self):
        """The ascending list of the different sights."""
        return sorted(set(list(self._sights.values())))

    def copy(self):
        """An equal new watch."""
        return Watch(self._sights)

    def within(self, other):
        """Whether each word of this watch has the same sight in the other one."""
        if not isinstance(other, Watch):
            raise BadWatch(other)
        return all([other._sights.get(word) == sight for word, sight in self._sights.items()])


def all_seen(machine):
    """The watch that sees each word of the machine that is no fault, as itself."""
    faults = machine.faults
    return Watch({word: word for word in machine.words if word not in faults})


def seeing(words):
    """The watch that sees the words of a row, as themselves."""
    check_words(words)
    return Watch({word: word for word in words})


def is_sights(value):
    """Whether any object is a dict from names to names."""
    if not isinstance(value, dict):
        return False
    return all([is_name(word) and is_name(sight) for word, sight in value.items()])


def check_words(words):
    """Raises BadWatch if the words are no row, or BadWord for the first item that is not a name."""
    if not is_row(words):
        raise BadWatch(words)
    for word in words:
        if not is_name(word):
            raise BadWord(word)


def sights_of_side(value):
    """The dict of the sights of one side of an operator, a Watch or a dict; it is only read."""
    if isinstance(value, Watch):
        return value._sights
    if not is_sights(value):
        raise BadWatch(value)
    return value


def shared_sights(one, other):
    """The part of a dict of sights that stands in the other dict, too."""
    return {word: sight for word, sight in one.items() if other.get(word) == sight}
