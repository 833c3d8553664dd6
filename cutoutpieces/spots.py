"""Spots: where a run waits, and what is done between two waits."""

from cutoutpieces.errors import NoSpot, TooMany
from cutoutpieces.walks import Walk, edges_of
from cutoutpieces.words import is_way

# Only rows of these kinds wait; the words are those with which a run goes on.
WORDS = {
    "do": ("fail", "told"),
    "yield": ("fail", "shut", "told"),
    "strike": ("done", "fail"),
    "if": ("fail", "no", "yes"),
    "loop": ("fail", "no", "yes"),
}


def is_wait(thing):
    """Whether any value is a tuple (thing, pending), pending being a tuple of ways out."""
    if not isinstance(thing, tuple) or len(thing) != 2 or not isinstance(thing[1], tuple):
        return False
    return all([is_way(way) for way in thing[1]])


def is_spot(body, thing):
    """Whether any value is a spot of a body by its form."""
    if not is_wait(thing):
        return False
    address, pending = thing
    if isinstance(address, tuple) and len(address) == 0:
        return len(pending) == 1 and pending[0] in ("answer", "end", "fail", "shut")
    return waits_at(body.layout(), address, pending, False)


def waits_at(layout, address, pending, looped):
    """Whether a run can wait, by the form, at any address with this tuple of ways out.

    looped is whether all rows stand in a loop around.
    """
    if not layout.has_row(address) or layout.row(address)[0] not in WORDS:
        return False
    lasts = layout.lasts_ending(address)
    if len(lasts) != len(pending):
        return False
    return all([looped or layout.in_loop(at) or way not in ("leave", "again") for at, way in zip(lasts, pending)])


def words_at(body, spot):
    """The ascending list of the strings with which a run goes on at a spot."""
    if not is_spot(body, spot):
        raise NoSpot(spot)
    return words_from(body.layout(), spot[0])


def words_from(layout, address):
    """The list of the strings with which a run goes on from a row, none if it has ended."""
    if address == ():
        return []
    return list(WORDS[layout.row(address)[0]])


def begun(body, *, stretches=()):
    """What is done up to the first wait, and its spot."""
    walk = Walk(body.layout(), edges_of(stretches), body.given, ())
    walk.begin()
    return walk.acts, walk.stop


def behind(body, spot, word, names, *, stretches=()):
    """What is done behind a word at a spot, with these names set, and the next spot."""
    if not is_spot(body, spot):
        raise NoSpot(spot)
    walk = Walk(body.layout(), edges_of(stretches), names, spot[1])
    walk.go(spot[0], word)
    return walk.acts, walk.stop


def standings(body, *, most=20000):
    """The ascending list of all (spot, names, puts) to which words lead."""
    layout = body.layout()
    walk = Walk(layout, {}, body.given, ())
    walk.begin()
    start = standing(walk, ())
    found = {start: True}
    waiting = [start]
    while waiting:
        if len(found) > most:
            raise TooMany(most)
        held = waiting.pop()
        for following in next_standings(layout, held):
            if following not in found:
                found[following] = True
                waiting.append(following)
    return sorted(found)


def standing(walk, puts):
    """Where a walk has stopped, if functions that put these names were handed out ahead of it."""
    caught = [act[2] for act in walk.acts if act[0] == "catch" and act[3] == "put"]
    return walk.stop, tuple(sorted(walk.known)), tuple(sorted(set([*puts, *caught])))


def next_standings(layout, held):
    """The list of the standings to which one word leads."""
    spot, names, puts = held
    found = [(spot, tuple(sorted([*names, name])), puts) for name in puts if name not in names]
    for word in words_from(layout, spot[0]):
        walk = Walk(layout, {}, names, spot[1])
        walk.go(spot[0], word)
        found.append(standing(walk, puts))
    return found
