"""Cuts: bodies with calls in the places of pieces."""

from cutoutpieces.bodies import Body
from cutoutpieces.errors import BadMark, NoMark, NoStretch, Overlap, Wrong
from cutoutpieces.pieces import has_stretch_form, rows_at, stands_in
from cutoutpieces.plans import Plan, need_fit_for
from cutoutpieces.rows import names_in
from cutoutpieces.words import is_list, is_name


def is_call(thing):
    """Whether any value is a list or a tuple (mark, stretch, plan) by its form."""
    if not is_list(thing) or len(thing) != 3:
        return False
    return is_name(thing[0]) and has_stretch_form(thing[1]) and isinstance(thing[2], Plan)


def stretch_of(call):
    """The stretch of a call."""
    return call[1]


def need_stretches(body, calls):
    """Raises NoStretch with the first stretch that is none of the body."""
    layout = body.layout()
    for _, stretch, _ in calls:
        if not layout.has_rows(stretch[0], stretch[1]):
            raise NoStretch(stretch)


def need_free_marks(body, calls):
    """Raises BadMark with the first mark that a row or an earlier call has."""
    used = []
    for mark, _, _ in calls:
        if mark in body or mark in used:
            raise BadMark(mark)
        used.append(mark)


def need_apart(calls):
    """Raises Overlap with the mark of the first call that has a row in common with an earlier one."""
    for index, (mark, stretch, _) in enumerate(calls):
        if any([have_common(stretch, elder) for _, elder, _ in calls[:index]]):
            raise Overlap(mark)


def have_common(stretch, other):
    """Whether two stretches have a row in common, those in lists of their rows counted."""
    return stands_in(stretch[0], other) or stands_in(other[0], stretch)


def needed_names(body, calls):
    """The ascending list of the names of all pieces that are called; raises NoName or Untold if a plan does not fit."""
    found = []
    for _, stretch, plan in calls:
        rows = rows_at(body, stretch)
        names = names_in(rows)
        need_fit_for(names, rows, plan)
        found.extend(names)
    return sorted(set(found))


class Cut:
    """A body with calls in it, which never changes."""

    def __init__(self, body, calls):
        if not isinstance(body, Body):
            raise Wrong(0)
        if not is_list(calls) or not all([is_call(call) for call in calls]):
            raise Wrong(1)
        need_stretches(body, calls)
        need_free_marks(body, calls)
        need_apart(calls)
        self._called = needed_names(body, calls)
        self._body = body
        self._calls = tuple(sorted([tuple(call) for call in calls], key=stretch_of))

    @property
    def body(self):
        """The body without calls."""
        return self._body

    def calls(self):
        """The list of the calls, by place."""
        return list(self._calls)

    def called_names(self):
        """The ascending list of the names of the pieces that are called."""
        return list(self._called)

    def marks(self):
        """The list of the marks of the calls, by place."""
        return [mark for mark, _, _ in self._calls]

    def call(self, mark):
        """The call with a mark."""
        # Only a name is compared with marks: any value may be asked for.
        if is_name(mark):
            for held in self._calls:
                if held[0] == mark:
                    return held
        raise NoMark(mark)

    def with_call(self, mark, stretch, plan):
        """The Cut with a further call."""
        if not is_name(mark):
            raise Wrong(0)
        if not has_stretch_form(stretch):
            raise Wrong(1)
        if not isinstance(plan, Plan):
            raise Wrong(2)
        return Cut(self._body, [*self._calls, (mark, stretch, plan)])

    def without(self, mark):
        """The Cut without the call with a mark."""
        left_out = self.call(mark)
        return Cut(self._body, [call for call in self._calls if call[0] != left_out[0]])

    def with_plan(self, mark, plan):
        """The Cut in which the call with a mark has another plan."""
        elder = self.call(mark)
        calls = [(*call[:2], plan) if call[0] == elder[0] else call for call in self._calls]
        return Cut(self._body, calls)

    def __len__(self):
        return len(self._calls)

    def __contains__(self, mark):
        return is_name(mark) and mark in self.marks()

    def __eq__(self, other):
        return isinstance(other, Cut) and self._body == other._body and self._calls == other._calls
