"""Notation: texts of rows, bodies, plans, kinds, cuts, words, signs and deeds."""

from cutoutpieces.deeds import DEEDS
from cutoutpieces.rows import inner_lists, parts_of

# What ends each list of a row.
ENDS = {"if": ("else", "over"), "loop": ("over",), "guard": ("other", "over"), "last": ("ending", "over")}


def joined(parts):
    """Several parts of one kind, or what stands for none."""
    return ",".join(parts) if parts else "-"


def as_lines(lines):
    """The text of lines, each with its end."""
    return "".join([line + "\n" for line in lines])


def show_row(row):
    """The text of a row."""
    return as_lines(row_lines(row))


def row_lines(row):
    """The list of the lines of a row."""
    shown = [show_part(part, held) for part, held in parts_of(row) if part != "rows"]
    lines = [" ".join([row[0], *shown])]
    for rows, end in zip(inner_lists(row), ENDS.get(row[0], ())):
        lines.extend(lines_of_rows(rows))
        lines.append(end)
    return lines


def lines_of_rows(rows):
    """The list of the lines of rows."""
    return [line for row in rows for line in row_lines(row)]


def show_part(part, held):
    """The word for a part of a row."""
    if part == "args":
        return joined(held)
    return "-" if held == "" else held


def show_body(body):
    """The text of a body."""
    return as_lines(["given " + joined(body.given), *lines_of_rows(body.rows())])


def show_plan(plan):
    """The text of a plan."""
    ins, backs = show_handings(plan.ins()), show_handings(plan.backs())
    return f"in {ins} back {backs} told {joined(plan.told)}"


def show_handings(handings):
    """The text of the handings of a dict that is ascending."""
    return joined([name + ":" + handings[name] for name in handings])


def show_kind(kind):
    """The text of a kind."""
    names = joined([name + ":" + "+".join(kind.of(name)) for name in kind.names()])
    return f"words {names} around {joined(kind.around)}"


def show_cut(cut):
    """The text of a cut."""
    return show_body(cut.body) + as_lines([show_deed(("cut", *call)) for call in cut.calls()])


def show_words(words):
    """The text of words of the world."""
    return joined([word if isinstance(word, str) else f"{word[0]}:{word[1]}" for word in words])


def show_signs(signs):
    """The text of signs."""
    return as_lines([" ".join([show_sign_part(part) for part in sign]) for sign in signs])


def show_sign_part(part):
    """The word for a part of a sign."""
    if part is None:
        return "-"
    if isinstance(part, tuple):
        return joined([str(value) for value in part])
    return str(part)


def show_deed(deed):
    """The text of a deed."""
    if deed[0] == "put":
        return "put " + show_address(deed[1]) + "\n" + show_row(deed[2])
    return " ".join([deed[0], *[show_deed_part(part, held) for part, held in zip(DEEDS[deed[0]], deed[1:])]])


def show_deed_part(part, held):
    """The text of a part of a deed."""
    if part == "address":
        return show_address(held)
    if part == "given":
        return joined(sorted(held))
    if part == "stretch":
        return show_stretch(held)
    if part == "plan":
        return show_plan(held)
    return held


def show_stretch(stretch):
    """The words for a stretch."""
    return show_address(stretch[0]) + " " + str(stretch[1])


def show_address(address):
    """The word for an address or a gap."""
    return ".".join([str(index) for index in address])
