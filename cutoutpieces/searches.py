"""Searches: all states to which steps lead, and shortest ways to something unlike.

What is searched is a world; its states are told by their codes.
"""

from cutoutpieces.errors import TooMany
from cutoutpieces.sides import ANY

# How a search ends: all states are found and nothing that is barred has come, some of it has come, or there are too
# many states.
ALIKE = "alike"
PARTED = "parted"
CROWDED = "crowded"


def searched(world, most, barred):
    """A tuple (end, unlike, found, last): how a search ends, and what is unlike in all steps that were taken.

    found is the dict from the codes of the states, those that take fewer steps first, to the code ahead of each; last
    is the code of the state ahead of what is barred, None for the begin.
    """
    unlike, firsts = world.firsts()
    found = {code: None for code in firsts}
    if unlike & barred:
        return PARTED, unlike, found, None
    waiting = list(found)
    at = 0
    while at < len(waiting):
        if len(waiting) > most:
            return CROWDED, unlike, found, None
        ahead = waiting[at]
        more, behind = world.steps(ahead)
        unlike = unlike | more
        if more & barred:
            return PARTED, unlike, found, ahead
        for code in behind:
            if code not in found:
                found[code] = ahead
                waiting.append(code)
        at += 1
    return ALIKE, unlike, found, None


def parted_or_alike(world, most):
    """A tuple (end, found, last) of a search in which all that is unlike is barred; raises TooMany if it is crowded."""
    end, _, found, last = searched(world, most, ANY)
    if end == CROWDED:
        raise TooMany(most)
    return end, found, last


def is_like(world, most):
    """Whether nothing unlike can be come to."""
    return parted_or_alike(world, most)[0] == ALIKE


def path_of(world, most):
    """The list of the tuples (state, move) of a shortest way to something unlike, None if there is none.

    The state of the first one is None, as it leads from the begin.
    """
    end, found, last = parted_or_alike(world, most)
    if end == ALIKE:
        return None
    codes = [last]
    while codes[-1] is not None:
        codes.append(found[codes[-1]])
    codes = codes[::-1]
    return [(world.state_at(code), world.move_between(code, behind)) for code, behind in zip(codes, [*codes[1:], None])]


def all_states(world, most):
    """The list of all states to which steps lead, None if something unlike can be come to."""
    end, found, _ = parted_or_alike(world, most)
    return [world.state_at(code) for code in found] if end == ALIKE else None


def is_closed(world, states):
    """Whether states have the first ones and those to which steps lead, and nothing unlike comes."""
    codes = [world.code_of(state) for state in states]
    held = {code: True for code in codes}
    for unlike, behind in [world.firsts(), *[world.steps(code) for code in codes]]:
        if unlike or not all([code in held for code in behind]):
            return False
    return True
