"""What any value is: an integer, a name, a use, a way out, a handing, an address."""

LETTERS = "abcdefghijklmnopqrstuvwxyz"
LONGEST = 8
USES = ("look", "put")
WAYS = ("again", "answer", "end", "fail", "leave", "shut")
HANDINGS = ("none", "value", "state")


def is_integer(thing):
    """Whether thing is an integer, True and False being none."""
    return isinstance(thing, int) and not isinstance(thing, bool)


def is_name(thing):
    """Whether thing is a string of one to eight letters a to z."""
    if not isinstance(thing, str) or not 1 <= len(thing) <= LONGEST:
        return False
    return thing.isascii() and thing.isalpha() and thing.islower()


def is_one_of(thing, words):
    """Whether thing is one of the words of a tuple."""
    return isinstance(thing, str) and thing in words


def is_use(thing):
    """Whether thing is what a function that is handed out may be used for."""
    return is_one_of(thing, USES)


def is_way(thing):
    """Whether thing is a way out of a row or of a list of rows."""
    return is_one_of(thing, WAYS)


def is_handing(thing):
    """Whether thing tells how a name is handed in or back."""
    return is_one_of(thing, HANDINGS)


def is_list(thing):
    """Whether thing is a list or a tuple."""
    return isinstance(thing, (list, tuple))


def are_names(thing, most):
    """Whether thing is a list or a tuple of at most so many names."""
    return is_list(thing) and len(thing) <= most and all([is_name(name) for name in thing])


def is_address(thing):
    """Whether thing is a tuple of an odd number of integers from 0 on."""
    if not isinstance(thing, tuple) or len(thing) % 2 == 0:
        return False
    return all([is_integer(index) and index >= 0 for index in thing])
