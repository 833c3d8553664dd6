"""Rows: what they look like, and what stands in them."""

from cutoutpieces.words import are_names, is_list, is_name, is_use

MOST_ARGS = 3

# What stands behind the word with which a row of each kind begins. "gets" is
# the name of a deed, which may be "" there.
FORMS = {
    "do": ("mark", "args", "gets"),
    "yield": ("mark", "args", "gets"),
    "strike": ("mark", "name"),
    "catch": ("mark", "name", "use"),
    "if": ("mark", "rows", "rows"),
    "loop": ("mark", "rows"),
    "leave": (),
    "again": (),
    "answer": ("mark", "args"),
    "guard": ("rows", "rows"),
    "last": ("rows", "rows"),
}


def is_row(thing):
    """Whether any value is a row by its form."""
    if not isinstance(thing, tuple) or len(thing) == 0 or not isinstance(thing[0], str):
        return False
    if thing[0] not in FORMS or len(thing) != len(FORMS[thing[0]]) + 1:
        return False
    return all([is_part(part, held) for part, held in parts_of(thing)])


def are_rows(thing):
    """Whether any value is a list or a tuple of rows by their form."""
    return is_list(thing) and all([is_row(row) for row in thing])


def parts_of(row):
    """The list of what stands in a row behind its first word, each with what it has to be."""
    return list(zip(FORMS[row[0]], row[1:]))


def is_part(part, thing):
    """Whether any value may stand where a row has this part."""
    if part == "rows":
        return are_rows(thing)
    if part == "args":
        return are_names(thing, MOST_ARGS)
    if part == "use":
        return is_use(thing)
    if part == "gets" and isinstance(thing, str) and thing == "":
        return True
    return is_name(thing)


def held_as(row, wanted):
    """The list of what a row has as this part."""
    return [held for part, held in parts_of(row) if part == wanted]


def frozen(row):
    """The row with tuples for lists."""
    return renamed([row], {}, {})[0]


def lists_of(row):
    """The list of the lists of a row, each a list of rows."""
    return [[frozen(inner) for inner in rows] for rows in held_as(row, "rows")]


def with_lists(row, lists):
    """The row with these lists of rows in the place of its own."""
    ahead = frozen(row)[:len(row) - len(lists)]
    return (*ahead, *[tuple([frozen(inner) for inner in rows]) for rows in lists])


def reads(row):
    """The list of the names that a row needs."""
    if row[0] == "strike":
        return held_as(row, "name")
    return [name for args in held_as(row, "args") for name in args]


def sets(row):
    """The name that a deed sets, or None."""
    for name in held_as(row, "gets"):
        if name != "":
            return name
    return None


def all_rows(rows):
    """The list of the rows, each ahead of those in its lists."""
    found = []
    for row in rows:
        found.append(row)
        for inner in held_as(row, "rows"):
            found.extend(all_rows(inner))
    return found


def own_names(row):
    """The list of the names that stand in a row, its lists left out."""
    gets = [name for name in held_as(row, "gets") if name != ""]
    args = [name for names in held_as(row, "args") for name in names]
    return args + gets + held_as(row, "name")


def names_in(rows):
    """The ascending list of the names that stand in rows, and in their lists."""
    return sorted(set([name for row in all_rows(rows) for name in own_names(row)]))


def marks_in(rows):
    """The list of the marks of rows, and of those in their lists, in order."""
    return [mark for row in all_rows(rows) for mark in held_as(row, "mark")]


def renamed(rows, names, marks):
    """The list of the rows with the names and marks that two dicts have for theirs."""
    return [renamed_row(row, names, marks) for row in rows]


def renamed_row(row, names, marks):
    """A row, frozen, with the names and marks that two dicts have for its own."""
    return (row[0], *[renamed_part(part, held, names, marks) for part, held in parts_of(row)])


def renamed_part(part, held, names, marks):
    """What comes in the place of a part of a row."""
    if part == "rows":
        return tuple(renamed(held, names, marks))
    if part == "args":
        return tuple([names.get(name, name) for name in held])
    if part == "mark":
        return marks.get(held, held)
    if part == "use":
        return held
    return names.get(held, held)


def count(rows):
    """How many rows they are, with those in lists."""
    return len(all_rows(rows))


def depth(rows):
    """How deep rows stand in lists within one another."""
    if len(rows) == 0:
        return 0
    return 1 + max([depth(inner) for row in rows for inner in held_as(row, "rows")], default=0)
