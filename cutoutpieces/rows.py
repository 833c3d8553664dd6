"""Rows: what they look like, and what stands in them."""

from cutoutpieces.words import are_names, is_list, is_name, is_use

MOST_ARGS = 3

# What stands behind the word with which a row of each kind begins. "gets" is
# the name of a deed, which may be "" there.
FORMS = {
    "do": ("mark", "args", "gets"),
    "yield": ("mark", "args", "gets"),
    "strike": ("mark", "name"),
    "catch": ("mark", "name", "use"),
    "if": ("mark", "rows", "rows"),
    "loop": ("mark", "rows"),
    "leave": (),
    "again": (),
    "answer": ("mark", "args"),
    "guard": ("rows", "rows"),
    "last": ("rows", "rows"),
}
# How many parts, the first word among them, stand ahead of the lists of a row. Nothing stands behind these.
AHEAD_OF_LISTS = {"if": 2, "loop": 2, "guard": 1, "last": 1}
UNMARKED = ("leave", "again", "guard", "last")


def is_row(thing):
    """Whether any value is a row by its form."""
    if not isinstance(thing, tuple) or len(thing) == 0 or not isinstance(thing[0], str):
        return False
    if thing[0] not in FORMS or len(thing) != len(FORMS[thing[0]]) + 1:
        return False
    return all([is_part(part, held) for part, held in parts_of(thing)])


def are_rows(thing):
    """Whether any value is a list or a tuple of rows by their form."""
    return is_list(thing) and all([is_row(row) for row in thing])


def parts_of(row):
    """The list of what stands in a row behind its first word, each with what it has to be."""
    return list(zip(FORMS[row[0]], row[1:]))


def is_part(part, thing):
    """Whether any value may stand where a row has this part."""
    if part == "rows":
        return are_rows(thing)
    if part == "args":
        return are_names(thing, MOST_ARGS)
    if part == "use":
        return is_use(thing)
    if part == "gets" and isinstance(thing, str) and thing == "":
        return True
    return is_name(thing)


def inner_lists(row):
    """The tuple of the lists of a row, as they stand in it."""
    return row[AHEAD_OF_LISTS[row[0]]:] if row[0] in AHEAD_OF_LISTS else ()


def frozen(row):
    """The row with tuples for lists."""
    if row[0] in AHEAD_OF_LISTS:
        return with_lists(row, inner_lists(row))
    if row[0] in ("do", "yield", "answer"):
        return (row[0], row[1], tuple(row[2]), *row[3:])
    return row


def all_frozen(rows):
    """The tuple of the rows with tuples for lists."""
    return tuple([frozen(row) for row in rows])


def lists_of(row):
    """The list of the lists of a row, each a list of rows."""
    return [[frozen(inner) for inner in rows] for rows in inner_lists(row)]


def with_lists(row, lists):
    """The row with these lists of rows in the place of its own."""
    if row[0] not in AHEAD_OF_LISTS:
        return frozen(row)
    return (*row[:AHEAD_OF_LISTS[row[0]]], *[all_frozen(rows) for rows in lists])


def args_of(row):
    """The names, in order, whose values a row shows, those of a strike left out."""
    return row[2] if row[0] in ("do", "yield", "answer") else ()


def reads(row):
    """The list of the names that a row needs."""
    return [row[2]] if row[0] == "strike" else list(args_of(row))


def sets(row):
    """The name that a deed sets, or None."""
    if row[0] in ("do", "yield") and row[3] != "":
        return row[3]
    return None


def all_rows(rows):
    """The list of the rows, each ahead of those in its lists."""
    found = []
    for row in rows:
        found.append(row)
        for inner in inner_lists(row):
            found.extend(all_rows(inner))
    return found


def own_names(row):
    """The list of the names that stand in a row, its lists left out."""
    if row[0] in ("do", "yield"):
        return [*row[2], row[3]] if row[3] != "" else list(row[2])
    if row[0] in ("strike", "catch"):
        return [row[2]]
    return list(args_of(row))


def names_in(rows):
    """The ascending list of the names that stand in rows, and in their lists."""
    return names_of_all(all_rows(rows))


def names_of_all(rows):
    """The ascending list of the names that stand in rows, their lists left out."""
    return sorted(set([name for row in rows for name in own_names(row)]))


def marks_in(rows):
    """The list of the marks of rows, and of those in their lists, in order."""
    return [row[1] for row in all_rows(rows) if row[0] not in UNMARKED]


def renamed(rows, names, marks):
    """The list of the rows with the names and marks that two dicts have for theirs."""
    return [renamed_row(row, names, marks) for row in rows]


def renamed_row(row, names, marks):
    """A row, frozen, with the names and marks that two dicts have for its own."""
    return (row[0], *[renamed_part(part, held, names, marks) for part, held in parts_of(row)])


def renamed_part(part, held, names, marks):
    """What comes in the place of a part of a row."""
    if part == "rows":
        return tuple(renamed(held, names, marks))
    if part == "args":
        return tuple([names.get(name, name) for name in held])
    if part == "mark":
        return marks.get(held, held)
    if part == "use":
        return held
    return names.get(held, held)


def count(rows):
    """How many rows they are in all."""
    return len(all_rows(rows))


def depth(rows):
    """How deep rows stand in lists within one another."""
    if len(rows) == 0:
        return 0
    return 1 + max([depth(inner) for row in rows for inner in inner_lists(row)], default=0)
