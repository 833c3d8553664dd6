"""Numbering: numbers for things that take long to compare."""


class Numbering:
    """Numbers things in the order in which they come."""

    def __init__(self):
        self._things = []
        self._numbers = {}

    def number_of(self, thing):
        """The number of a thing, which may be new."""
        number = self._numbers.setdefault(thing, len(self._things))
        if number == len(self._things):
            self._things.append(thing)
        return number

    def thing_at(self, number):
        """The thing with a number."""
        return self._things[number]
