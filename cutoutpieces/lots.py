"""Lots: which calls of a cut go together, and calls that are joined and parted."""

from cutoutpieces.choices import choices, is_part
from cutoutpieces.cuts import Cut
from cutoutpieces.errors import NoStretch
from cutoutpieces.plans import Plan
from cutoutpieces.products import is_same


def lots_of(cut):
    """The list of all lots, as tuples."""
    return choices(list(range(len(cut))))


def is_right_lot(cut, lot, most):
    """Whether the cut with the calls of a lot alone is the same as the body."""
    calls = cut.calls()
    return is_same(Cut(cut.body, [calls[number] for number in lot]), most=most)


def alone(cut, *, most=20000):
    """The dict from the marks of the calls to whether each is right alone."""
    held = {mark: is_right_lot(cut, [number], most) for number, mark in enumerate(cut.marks())}
    return {mark: held[mark] for mark in sorted(held)}


def right_lots(cut, *, most=20000):
    """The ascending list of the right lots."""
    return [list(lot) for lot in sorted(lots_of(cut)) if is_right_lot(cut, lot, most)]


def greatest_lots(cut, *, most=20000):
    """The ascending list of the right lots that are no part of another one."""
    right = right_lots(cut, most=most)
    return [lot for lot in right if not any([is_part(lot, other) for other in right if other != lot])]


def small_right_lots(cut, most):
    """The list of the right lots of one and two calls, as tuples."""
    return [lot for lot in lots_of(cut) if 1 <= len(lot) <= 2 and is_right_lot(cut, lot, most)]


def barring(cut, *, most=20000):
    """The ascending list of the tuples of two calls that are right alone, and wrong together."""
    held = small_right_lots(cut, most)
    return [(i, k) for i, k in twos_of(cut) if (i,) in held and (k,) in held and (i, k) not in held]


def helping(cut, *, most=20000):
    """The ascending list of the tuples of two calls that are right together, though not each is right alone."""
    held = small_right_lots(cut, most)
    return [(i, k) for i, k in twos_of(cut) if (i, k) in held and ((i,) not in held or (k,) not in held)]


def twos_of(cut):
    """The ascending list of the lots of two calls."""
    return sorted([lot for lot in lots_of(cut) if len(lot) == 2])


def raised(cut):
    """The Cut in which each handing by value is one by state."""
    return Cut(cut.body, [(mark, stretch, raised_plan(plan)) for mark, stretch, plan in cut.calls()])


def raised_plan(plan):
    """The Plan in which each handing is by state."""
    ins = {name: "state" for name in plan.ins()}
    backs = {name: "state" for name in plan.backs()}
    return Plan(ins, backs, plan.told)


def joined(cut, one, other, plan):
    """The Cut in which two calls, one just behind the other, are one, with the mark of the first."""
    mark, (gap, many), _ = cut.call(one)
    other_mark, (other_gap, more), _ = cut.call(other)
    stretch = (gap, many + more)
    if other_gap != behind_rows(gap, many):
        raise NoStretch(stretch)
    calls = [call for call in cut.calls() if call[0] != mark and call[0] != other_mark]
    return Cut(cut.body, [*calls, (mark, stretch, plan)])


def parted(cut, mark, many, other, plans):
    """The Cut in which a call is two, the first of which has its mark and so many of its rows."""
    own, (gap, both), _ = cut.call(mark)
    if not 0 < many < both:
        raise NoStretch((gap, many))
    calls = [call for call in cut.calls() if call[0] != own]
    first = (own, (gap, many), plans[0])
    second = (other, (behind_rows(gap, many), both - many), plans[1])
    return Cut(cut.body, [*calls, first, second])


def behind_rows(gap, many):
    """The gap behind so many rows behind a gap."""
    return (*gap[:-1], gap[-1] + many)
