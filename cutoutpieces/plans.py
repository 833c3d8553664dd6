"""Plans: how names are handed to a call and back, and which ways out are told."""

from cutoutpieces.errors import NoName, Untold, Wrong
from cutoutpieces.pieces import ways_of
from cutoutpieces.rows import all_rows
from cutoutpieces.words import is_handing, is_list, is_name, is_way

# A frame has no loop around it and no body to answer from, so what leaves a
# piece by these ways has to be done by the caller.
NEEDED = ("again", "answer", "leave")
WEIGHTS = {"none": 0, "value": 1, "state": 2}
# Those of less weight first, of one weight those whose first handing weighs less.
PAIRS = (
    ("none", "none"), ("none", "value"), ("value", "none"), ("none", "state"), ("value", "value"), ("state", "none"),
    ("value", "state"), ("state", "value"), ("state", "state"),
)


def are_handings(thing):
    """Whether any value is a dict from names to handings."""
    return isinstance(thing, dict) and all([is_name(name) and is_handing(thing[name]) for name in thing])


def are_told(thing):
    """Whether any value is a list or a tuple of ways out other than the end."""
    return is_list(thing) and all([is_way(way) and way != "end" for way in thing])


def done_handings(handings):
    """The dict, by ascending names, of the handings that hand something."""
    return {name: handings[name] for name in sorted(handings) if handings[name] != "none"}


class Plan:
    """A plan, which never changes."""

    def __init__(self, ins, backs, told):
        if not are_handings(ins):
            raise Wrong(0)
        if not are_handings(backs):
            raise Wrong(1)
        if not are_told(told):
            raise Wrong(2)
        self._ins = done_handings(ins)
        self._backs = done_handings(backs)
        self._told = tuple(sorted(set(told)))

    @property
    def told(self):
        """The ascending tuple of the ways out that are told."""
        return self._told

    def ins(self):
        """The dict of the names that are handed in."""
        return {name: self._ins[name] for name in self._ins}

    def backs(self):
        """The dict of the names that are handed back."""
        return {name: self._backs[name] for name in self._backs}

    def names(self):
        """The ascending list of the names that are handed in or back."""
        return sorted(set([*self._ins, *self._backs]))

    def with_pair(self, name, pair):
        """The Plan with this pair of a name in the place of its own."""
        return Plan({**self._ins, name: pair[0]}, {**self._backs, name: pair[1]}, self._told)

    def with_told(self, told):
        """The Plan with these told ways in the place of its own."""
        return Plan(self._ins, self._backs, told)

    def within(self, other):
        """Whether another Plan tells all that this one tells, and hands each name at least so."""
        ways = all([way in other._told for way in self._told])
        return ways and all([is_pair_within(self[name], other[name]) for name in self.names()])

    def __getitem__(self, name):
        if not is_name(name):
            raise NoName(name)
        return self._ins.get(name, "none"), self._backs.get(name, "none")

    def __iter__(self):
        raise TypeError("a Plan is not iterated over")

    def __eq__(self, other):
        if not isinstance(other, Plan):
            return False
        return self._ins == other._ins and self._backs == other._backs and self._told == other._told


def is_pair_within(pair, other):
    """Whether each handing of a pair is at most that of another one."""
    return all([WEIGHTS[mine] <= WEIGHTS[its] for mine, its in zip(pair, other)])


def pair_weight(pair):
    """What the two handings of a pair weigh."""
    return WEIGHTS[pair[0]] + WEIGHTS[pair[1]]


def weight(plan):
    """What all pairs of a plan weigh."""
    return sum([pair_weight(plan[name]) for name in plan.names()])


def all_pairs():
    """The list of the nine pairs, the lighter ones first."""
    return list(PAIRS)


def needed_ways(piece):
    """The ascending list of the ways of a piece that each plan for it has to tell."""
    return needed_by(piece.rows())


def needed_by(rows):
    """The ascending list of the ways of rows that each plan for them has to tell."""
    if not any([row[0] in NEEDED for row in all_rows(rows)]):
        return []
    return [way for way in ways_of(rows) if way in NEEDED]


def need_fit(piece, plan):
    """Raises NoName or Untold if a plan does not fit a piece."""
    need_fit_for(piece.names(), piece.rows(), plan)


def need_fit_for(names, rows, plan):
    """Raises NoName or Untold if a plan does not fit rows in which these names stand."""
    for name in plan.names():
        if name not in names:
            raise NoName(name)
    for way in needed_by(rows):
        if way not in plan.told:
            raise Untold(way)
