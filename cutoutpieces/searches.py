"""Searches: all states to which steps lead, and shortest ways to something unlike.

What is searched has two methods: firsts() and steps(state) return lists of
tuples (move, state), the state being None where something unlike comes.
"""

from cutoutpieces.errors import TooMany


def searched(world, most):
    """A tuple: all states with the tuple (state, move) ahead of each, and this tuple ahead of something unlike.

    States that take fewer moves come first. If nothing unlike can be come to, the latter is None;
    otherwise a shortest way leads there.
    """
    found = {}
    waiting = []
    for move, state in world.firsts():
        if state is None:
            return found, (None, move)
        if state not in found:
            found[state] = (None, move)
            waiting.append(state)
    at = 0
    while at < len(waiting):
        if len(found) > most:
            raise TooMany(most)
        held = waiting[at]
        for move, state in world.steps(held):
            if state is None:
                return found, (held, move)
            if state not in found:
                found[state] = (held, move)
                waiting.append(state)
        at += 1
    return found, None


def is_like(world, most):
    """Whether nothing unlike can be come to."""
    return searched(world, most)[1] is None


def path_to(found, last):
    """The list of the tuples (state, move) that lead to the last one and end with it."""
    path = [last]
    while path[-1][0] is not None:
        path.append(found[path[-1][0]])
    return path[::-1]


def all_states(world, most):
    """The list of all states to which steps lead, None if something unlike comes."""
    found, last = searched(world, most)
    return list(found) if last is None else None


def is_closed(world, states):
    """Whether states have the first ones and those to which steps lead, and nothing unlike comes."""
    held = {state: True for state in states}
    if not all([state in held for _, state in world.firsts()]):
        return False
    return all([following in held for state in states for _, following in world.steps(state)])
