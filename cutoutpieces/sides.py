"""Sides: what becomes of the cells of one name along acts, body and cut being done side by side.

A program is a tuple of what acts mean for one name: ("set", is_set), ("strike",), ("catch", use),
("in", k, is_set), ("out", k, way, is_set), is_set being whether the name is set ahead of it, and
("bar", signs), where these signs of the cell through which rows are done are unlike.

Handings tell of each call, by its index, how the name is handed: tuples (pair, told).

What is unlike is told by the sum of these: UNSET_IN and UNSET_BACK, where the name is handed by value, but unset,
and UNLIKE for all else. Only in the first two cases more can be done: what would be done by state.
"""

from cutoutpieces.cells import BODY, FRAME, called, caught, going, returned, set_at, sign_of, struck

UNSET_IN = 1
UNSET_BACK = 2
UNLIKE = 4
ANY = 7


def program_of(acts, name, is_set):
    """The program of acts for a name, set or not ahead of them."""
    steps = []
    for act in acts:
        word = act[0]
        if word == "in" or word == "out":
            steps.append((*act, is_set))
        elif word == "set" and act[1] == name:
            steps.append(("set", is_set))
            is_set = True
        elif word == "strike" and act[1] == name:
            steps.append(act[:1])
            is_set = False
        elif word == "catch" and act[2] == name:
            steps.append(("catch", act[3]))
        else:
            signs = signs_barred(act, name)
            if signs:
                steps.append(("bar", signs))
    return tuple(steps)


def signs_barred(act, name):
    """The signs with which an act is unlike for a name, if it changes nothing."""
    word = act[0]
    if word == "lack":
        # A row that lacks a name in the body lacks none, or another one, in the cut.
        return "+" if act[1] == name else "-" if name in act[2] else ""
    if (word == "need" and name in act[1]) or (word == "answer" and name in act[2]):
        return "+-"
    return ""


def is_unset(cell, is_set):
    """Whether what a cell tells of is unset, the body's name being set or not."""
    return cell[0] == "-" or (cell[0] == "=" and not is_set)


def ways_along(program, cells, handings):
    """A tuple: what is unlike along a program, and the list of the tuples (cells, watched) behind it.

    watched tells of each call that is left whether its frame is watched from then on.
    """
    unlike = 0
    ways = [(cells, ())]
    for step in program:
        for held, _ in ways:
            unlike = unlike | unlike_at(step, held, handings)
        if unlike >= UNLIKE:
            return unlike, []
        ways = [(following, (*watched, *more))
                for held, watched in ways for following, more in behind_step(step, held, handings)]
    return unlike, ways


def unlike_at(step, cells, handings):
    """What is unlike at a step of a program."""
    word = step[0]
    if word == "bar":
        return UNLIKE if sign_of(cells) in step[1] else 0
    if word == "in" and handings[step[1]][0][0] == "value" and is_unset(cells[BODY], step[2]):
        return UNSET_IN
    if word == "out" and handed_back(step, handings) == "value" and is_unset(cells[FRAME], step[3]):
        return UNSET_BACK
    return 0


def behind_step(step, cells, handings):
    """The list of the tuples (cells, watched) behind one step of a program."""
    word = step[0]
    if word == "in":
        return [(called(cells, handings[step[1]][0][0], step[2]), ())]
    if word == "out":
        return [(following, (watched,)) for following, watched in returned(cells, handed_back(step, handings))]
    if word == "set":
        return [(set_at(cells, going(cells), step[1]), ())]
    if word == "strike":
        return [(struck(cells), ())]
    if word == "catch":
        return [(caught(cells, step[1]), ())]
    return [(cells, ())]


def handed_back(step, handings):
    """How the name is handed back where a call is left."""
    _, k, way, _ = step
    pair, told = handings[k]
    return pair[1] if way == "end" or way in told else "none"
