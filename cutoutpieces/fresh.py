"""Fresh marks: such as stand nowhere yet."""

from cutoutpieces.words import LETTERS


def fresh_marks(used):
    """The list of the marks of two letters that are none of the used ones, at least several hundred."""
    return [first + second for first in LETTERS for second in LETTERS if first + second not in used]
