"""Holders: which function that was handed out holds which cell of a name."""

from cutoutpieces.cells import BODY, ELDER, FRAME, OTHERS


class Holders:
    """Numbers the functions and the frames of one run, the body being the frame 0."""

    def __init__(self):
        self._functions = []
        self._frames = 0
        self._at = {BODY: 0}

    def follow(self, acts, watched):
        """Goes along with acts; watched tells of each call that is left whether its frame is watched from then on."""
        ends = 0
        for act in acts:
            if act[0] == "catch":
                frame = self._at[FRAME] if FRAME in self._at else self._at[BODY]
                self._functions.append((act[2], act[3], frame))
            elif act[0] == "in":
                self._frames += 1
                self._at[FRAME] = self._frames
            elif act[0] == "out":
                frame = self._at.pop(FRAME)
                if watched[ends]:
                    self._at[ELDER] = frame
                ends += 1

    def word(self, use, name, place):
        """The word by which the world uses a function for a name that holds the cell at a place, None for any."""
        for k, (caught, what, frame) in enumerate(self._functions):
            if caught == name and what == use and (place is None or self._place_of(frame) == place):
                return (use, k)
        return None

    def _place_of(self, frame):
        for place in self._at:
            if self._at[place] == frame:
                return place
        return OTHERS
