"""Breaks: by which words of a kind a pair of handings comes to be wrong.

A set of words is an ascending tuple. What is wrong for a set is wrong for each greater one.
"""

from cutoutpieces.asks import need_name, pair_plan
from cutoutpieces.choices import choices, has_one_as_part, is_part, is_part_of_one
from cutoutpieces.errors import TooMany
from cutoutpieces.folds import FoldGround, fold_world, leads_through
from cutoutpieces.kinds import AROUND, WORDS, Kind
from cutoutpieces.plans import need_fit
from cutoutpieces.searches import is_like
from cutoutpieces.tables import is_choice


class Asked:
    """Asks whether a pair of handings of one name is right for sets of words."""

    def __init__(self, piece, told, name, pair, most):
        need_name(piece, name)
        self._piece = piece
        self._name = name
        self._plan = pair_plan(name, pair, told)
        need_fit(piece, self._plan)
        self._leads = leads_through(piece)
        self._most = most

    def is_right(self, held):
        """Whether the pair is right for a set."""
        own = [word for word in held if word in WORDS]
        kind = Kind({self._name: own}, [word for word in held if word in AROUND])
        ground = FoldGround(self._piece, kind, self._leads)
        return is_like(fold_world(ground, self._plan, self._name), self._most)

    def is_known_as(self, held, right):
        """Whether a set is right, or is wrong; None if that takes too many states."""
        try:
            return self.is_right(held) == right
        except TooMany:
            return None


def all_sets(words):
    """The list of all sets of some of the words."""
    return choices(sorted(set(words)))


def lesser_sets(held):
    """The list of the sets that are one word less."""
    return [tuple([other for other in held if other != word]) for word in held]


def greatest_sets(asked, words):
    """The list of the sets for which the pair is right, but wrong for each greater one."""
    wrong = []
    right = []
    # Greater ones come first: then no set is asked for that is a part of a right one, whose states are not needed.
    for held in sorted(all_sets(words), key=len, reverse=True):
        if is_part_of_one(held, right) or has_one_as_part(held, wrong):
            continue
        if asked.is_right(held):
            right.append(held)
        else:
            wrong.append(shrunk(asked, held))
    return right


def shrunk(asked, held):
    """A set for which the pair is wrong that is a part of another such set, as small as is easily found."""
    left = held
    for word in held:
        less = tuple([other for other in left if other != word])
        if asked.is_known_as(less, False):
            left = less
    return left


def least_kinds(piece, told, name, pair, words, *, most=20000):
    """The ascending list of the sets for which a pair is wrong, but right for each part of theirs."""
    right = greatest_sets(Asked(piece, told, name, pair, most), words)
    wrong = [held for held in all_sets(words) if not is_part_of_one(held, right)]
    return sorted([held for held in wrong if all([is_part_of_one(less, right) for less in lesser_sets(held)])])


def greatest_kinds(piece, told, name, pair, words, *, most=20000):
    """The ascending list of the sets for which a pair is right, but wrong for each greater one."""
    return sorted(greatest_sets(Asked(piece, told, name, pair, most), words))


def is_frontier(piece, told, name, pair, words, wrong, right, *, most=20000):
    """Whether any values are lists of sets, wrong and right ones, that tell of all sets whether they are right."""
    asked = Asked(piece, told, name, pair, most)
    if not are_sets(wrong, words) or not are_sets(right, words):
        return False
    return is_frontier_of(asked, words, sorted(set(wrong)), sorted(set(right)), most)


def is_frontier_of(asked, words, wrong, right, most):
    """Whether sets, wrong and right ones, each of which stands once, tell of all sets whether they are right."""
    if not all([has_one_as_part(held, wrong) or is_part_of_one(held, right) for held in all_sets(words)]):
        return False
    # One of both would be told wrong.
    if any([is_part_of_one(held, right) for held in wrong]):
        return False
    least = [held for held in wrong if not any([is_less(other, held) for other in wrong])]
    greatest = [held for held in right if not any([is_less(held, other) for other in right])]
    known = [*[asked.is_known_as(held, False) for held in least], *[asked.is_known_as(held, True) for held in greatest]]
    if False in known:
        return False
    if None in known:
        raise TooMany(most)
    return True


def are_sets(thing, words):
    """Whether any value is a list of sets of some of the words."""
    names = tuple(words)
    return isinstance(thing, list) and all([is_choice(held, names) for held in thing])


def is_less(held, other):
    """Whether a set is a part of another one, and not the same."""
    return held != other and is_part(held, other)
