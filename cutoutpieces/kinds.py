"""Kinds: what the bodies around a piece may do."""

from cutoutpieces.errors import Wrong
from cutoutpieces.pieces import piece_at, stands_in
from cutoutpieces.rows import reads, sets
from cutoutpieces.words import is_list, is_name, is_one_of

WORDS = ("look", "put", "read", "set", "strike", "unset")
AROUND = ("guard", "last", "loop")


def are_some(thing, words):
    """Whether any value is a list or a tuple of some of the words of a tuple."""
    return is_list(thing) and all([is_one_of(word, words) for word in thing])


def are_words(thing):
    """Whether any value is a dict from names to lists or tuples of words."""
    if not isinstance(thing, dict):
        return False
    return all([is_name(name) and are_some(words, WORDS) for name, words in thing.items()])


def both_have(words, others):
    """The list of the words that stand in two tuples."""
    return [word for word in words if word in others]


class Kind:
    """A kind of bodies, which never changes."""

    def __init__(self, words, around):
        if not are_words(words):
            raise Wrong(0)
        if not are_some(around, AROUND):
            raise Wrong(1)
        self._around = tuple(sorted(set(around)))
        self._words = {name: tuple(sorted(set(words[name]))) for name in sorted(words) if len(words[name]) > 0}
        said = [(name, word) for name in self._words for word in self._words[name]]
        self._all = [*said, *self._around]

    @property
    def around(self):
        """The ascending tuple of the rows in which the piece may stand."""
        return self._around

    def of(self, name):
        """The ascending list of the words of a name."""
        return list(self._words.get(name, ()))

    def names(self):
        """The ascending list of the names that have words."""
        return list(self._words)

    def words(self):
        """The dict from the names that have words to their lists."""
        return {name: list(self._words[name]) for name in self._words}

    def with_words(self, name, words):
        """The Kind with these words of a name in the place of its own."""
        return Kind({**self._words, name: words}, self._around)

    def with_around(self, around):
        """The Kind with these rows around in the place of its own."""
        return Kind(self._words, around)

    def within(self, other):
        """Whether another Kind has all that this one has."""
        return all([part in other._all for part in self._all])

    def __len__(self):
        return len(self._all)

    def __eq__(self, other):
        return isinstance(other, Kind) and self._words == other._words and self._around == other._around

    def __and__(self, other):
        if not isinstance(other, Kind):
            return NotImplemented
        words = {name: both_have(self._words[name], other._words.get(name, ())) for name in self._words}
        return Kind(words, both_have(self._around, other._around))

    def __or__(self, other):
        if not isinstance(other, Kind):
            return NotImplemented
        names = [*self._words, *other._words]
        words = {name: [*self._words.get(name, ()), *other._words.get(name, ())] for name in names}
        return Kind(words, [*self._around, *other._around])


def kind_of(body, stretch):
    """The least Kind of which a body is around the piece at a stretch."""
    piece_names = piece_at(body, stretch).names()
    said = [(name, "unset") for name in piece_names if name not in body.given]
    for address in body.addresses():
        if not stands_in(address, stretch):
            said.extend(row_words(body.row_at(address)))
    words = {name: [word for other, word in said if other == name] for name in piece_names}
    return Kind(words, around_of(body, stretch[0]))


def row_words(row):
    """The list of the tuples (name, word) for what a row does with names."""
    if row[0] == "strike":
        return [(row[2], "strike")]
    if row[0] == "catch":
        return [(row[2], row[3])]
    said = [(name, "read") for name in reads(row)]
    if sets(row) is not None:
        said.append((sets(row), "set"))
    return said


def around_of(body, gap):
    """The list of the rows in whose list 0 a gap stands, told by their first words."""
    outer = body.layout().outer(gap)
    return [word for word, number, at in outer if number == 0 and word in AROUND]
