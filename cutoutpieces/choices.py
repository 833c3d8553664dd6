"""Choices: tuples of some of several things, and which of them hold."""


def choices(things):
    """The list of the tuples of some of the things, in their order, none of them too."""
    found = [()]
    for thing in things:
        found = [*found, *[(*choice, thing) for choice in found]]
    return found


def is_part(choice, other):
    """Whether all of a choice stands in another one."""
    return all([thing in other for thing in choice])


def is_part_of_one(choice, others):
    """Whether a choice is a part of one of several."""
    return any([is_part(choice, other) for other in others])


def has_one_as_part(choice, others):
    """Whether one of several choices is a part of this one."""
    return any([is_part(other, choice) for other in others])
