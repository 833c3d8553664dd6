"""Walks of a cut body: what calls do between two waits."""

from cutoutpieces.walks import Walk, edges_of


def unset_of(handings, names):
    """The ascending list of the names that are handed by value, but are not set."""
    return [name for name in handings if handings[name] == "value" and name not in names]


class CallWalk(Walk):
    """Goes through the rows of a body, some of which are called.

    While a call goes on, known are the names that are set in its frame, and
    caller those that are set in the body; otherwise caller is None. The acts are
    ("in", k) where the frame of a call begins, and ("out", k, handed) where it
    is over, handed being whether names are handed back.
    """

    def __init__(self, layout, calls, names, caller, pending):
        Walk.__init__(self, layout, edges_of([stretch for _, stretch, _ in calls]), names, pending)
        self.caller = caller
        self._calls = calls

    def _enter(self, k):
        mark, _, plan = self._calls[k]
        lacked = unset_of(plan.ins(), self.known)
        if lacked:
            self.acts.append(("lack", mark, lacked[0]))
            return False
        self.caller = self.known
        self.known = {name: True for name in plan.ins() if name in self.caller}
        self.acts.append(("in", k))
        return True

    def _exit(self, k, way):
        mark, _, plan = self._calls[k]
        frame = self.known
        self.known = self.caller
        self.caller = None
        handed = way == "end" or way in plan.told
        lacked = unset_of(plan.backs(), frame) if handed else []
        if lacked:
            self.acts.extend([("lack", mark, lacked[0]), ("out", k, False)])
            return "fail"
        self.acts.append(("out", k, handed))
        if handed:
            self._hand_back(plan, frame)
        return way

    def _hand_back(self, plan, frame):
        for name in plan.backs():
            if name in frame:
                self.known[name] = True
            else:
                self.known.pop(name, None)
