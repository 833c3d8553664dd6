"""Leasts: the least plans that are right, and what parts those that are less."""

from cutoutpieces.asks import cut_at, first_right_pair, has_right_pair, in_body, in_kind
from cutoutpieces.choices import choices
from cutoutpieces.errors import TooMany
from cutoutpieces.lean import parted_body
from cutoutpieces.pieces import piece_at
from cutoutpieces.plans import Plan, need_fit, needed_ways
from cutoutpieces.products import parting

# What each handing is when it is less by one.
LESSER = {"state": "value", "value": "none"}


def tellings(piece):
    """The list of the lists of ways that a plan for a piece may tell, those with fewer ways first."""
    may_be_told = [way for way in ("fail", "shut") if way in piece.ways()]
    told = [sorted([*needed_ways(piece), *more]) for more in choices(may_be_told)]
    return sorted(sorted(told), key=len)


def least_plans(piece, kind, *, most=20000):
    """The list of the least plans, in all bodies of a kind."""
    return least_plans_of(in_kind(piece, kind), most)


def least_plans_in(body, stretch, *, most=20000):
    """The list of the least plans, in one body."""
    return least_plans_of(in_body(body, stretch), most)


def least_plans_of(asks, most):
    """The list of the least plans."""
    found = []
    for told in tellings(asks.piece):
        if found and len(told) > len(found[0].told):
            return found
        plan = plan_of_first_pairs(asks, told, most)
        if plan is not None:
            found.append(plan)
    return found


def plan_of_first_pairs(asks, told, most):
    """The Plan that tells these ways and has the first right pair of each name, None if one has none."""
    plan = Plan({}, {}, told)
    for name in asks.piece.names():
        pair = first_right_pair(asks, told, name, most)
        if pair is None:
            return None
        plan = plan.with_pair(name, pair)
    return plan


def never(piece, kind, *, most=20000):
    """Whether no plan is right in all bodies of a kind."""
    return is_never(in_kind(piece, kind), most)


def never_in(body, stretch, *, most=20000):
    """Whether no plan is right in one body."""
    return is_never(in_body(body, stretch), most)


def is_never(asks, most):
    """Whether no plan is right."""
    unknown = False
    for told in tellings(asks.piece):
        held = is_right_telling(asks, told, most)
        if held is None:
            unknown = True
        elif held:
            return False
    if unknown:
        raise TooMany(most)
    return True


def is_right_telling(asks, told, most):
    """Whether some plan that tells these ways is right; None if that is not known."""
    unknown = False
    for name in asks.piece.names():
        held = has_right_pair(asks, told, name, most)
        if held is None:
            unknown = True
        elif not held:
            return False
    return None if unknown else True


def bars(piece, kind, *, most=20000):
    """None if some plan is right; otherwise the dict from all tellings to the names that have no right pair then."""
    asks = in_kind(piece, kind)
    unknown = False
    found = {}
    for told in sorted(tellings(piece)):
        held = {name: has_right_pair(asks, told, name, most) for name in piece.names()}
        found[tuple(told)] = [name for name in held if held[name] is False]
        if None in list(held.values()):
            unknown = True
        elif not found[tuple(told)]:
            return None
    if unknown:
        raise TooMany(most)
    return found


def lesser_plans(piece, plan):
    """The ascending list of the tuples (what, plan) of the plans that are less by one thing."""
    need_fit(piece, plan)
    ins, backs, told = plan.ins(), plan.backs(), plan.told
    found = [(("back", name), Plan(ins, lessened(backs, name), told)) for name in backs]
    found.extend([(("in", name), Plan(lessened(ins, name), backs, told)) for name in ins])
    free = [way for way in told if way not in needed_ways(piece)]
    found.extend([(("told", way), plan.with_told([other for other in told if other != way])) for way in free])
    return found


def lessened(handings, name):
    """The dict of handings in which one is the next lesser."""
    return {**handings, name: LESSER[handings[name]]}


def against(piece, plan, kind, *, most=20000):
    """The dict from what lesser plans lack to what parts them in a body of the kind."""
    return {what: parted_body(piece, less, kind, most=most) for what, less in lesser_plans(piece, plan)}


def against_in(body, stretch, plan, *, most=20000):
    """The dict from what lesser plans lack to the words that part them in one body."""
    plans = lesser_plans(piece_at(body, stretch), plan)
    return {what: parting(cut_at(body, stretch, less), most=most) for what, less in plans}
