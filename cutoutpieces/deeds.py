"""Deeds: what is done to a cut when it is edited."""

from cutoutpieces.bodies import are_given
from cutoutpieces.cuts import Cut
from cutoutpieces.errors import BadMark, NoMark, NoName, NoStretch
from cutoutpieces.pieces import has_stretch_form, stands_in
from cutoutpieces.plans import Plan
from cutoutpieces.rows import frozen, is_row
from cutoutpieces.shifts import behind_row, leads_into, shifted
from cutoutpieces.words import is_address, is_name

# What stands behind the word with which a deed of each kind begins.
DEEDS = {
    "put": ("address", "row"),
    "out": ("address",),
    "given": ("given",),
    "name": ("name", "name"),
    "mark": ("name", "name"),
    "cut": ("name", "stretch", "plan"),
    "back": ("name",),
    "plan": ("name", "plan"),
}


def is_deed(thing):
    """Whether any value is a deed by its form."""
    if not isinstance(thing, tuple) or len(thing) == 0 or not isinstance(thing[0], str):
        return False
    if thing[0] not in DEEDS or len(thing) != len(DEEDS[thing[0]]) + 1:
        return False
    return all([is_deed_part(part, held) for part, held in zip(DEEDS[thing[0]], thing[1:])])


def is_deed_part(part, thing):
    """Whether any value may stand where a deed has this part."""
    if part == "address":
        return is_address(thing)
    if part == "row":
        return is_row(thing)
    if part == "given":
        return are_given(thing)
    if part == "stretch":
        return has_stretch_form(thing)
    if part == "plan":
        return isinstance(thing, Plan)
    return is_name(thing)


def kept_deed(deed):
    """The deed as it is kept: its row with tuples for lists, the given names as an ascending tuple."""
    if deed[0] == "put":
        return ("put", deed[1], frozen(deed[2]))
    if deed[0] == "given":
        return ("given", tuple(sorted(deed[1])))
    return deed


def done(cut, deed):
    """The Cut behind a deed; raises some error of the package if it leads to none."""
    word = deed[0]
    if word == "put":
        return put_in(cut, deed[1], deed[2])
    if word == "out":
        return taken_out(cut, deed[1])
    if word == "given":
        return Cut(cut.body.given_names(list(deed[1])), cut.calls())
    if word == "name":
        return name_changed(cut, deed[1], deed[2])
    if word == "mark":
        return mark_changed(cut, deed[1], deed[2])
    if word == "cut":
        return cut.with_call(deed[1], deed[2], deed[3])
    if word == "back":
        return cut.without(deed[1])
    return cut.with_plan(deed[1], deed[2])


def put_in(cut, gap, row):
    """The Cut with a row at a gap."""
    body = cut.body.put(gap, row)
    return Cut(body, [(mark, behind_put(stretch, gap), plan) for mark, stretch, plan in cut.calls()])


def behind_put(stretch, at):
    """The stretch of the same rows if a row is put at a gap, and of this row, if it is put amid them."""
    gap, many = stretch
    if len(at) == len(gap) and at != gap and stands_in(at, stretch):
        return gap, many + 1
    return shifted(gap, at, 1), many


def taken_out(cut, address):
    """The Cut without a row and all that stands in its lists."""
    body = cut.body.out(address)
    return Cut(body, [(mark, behind_out(stretch, address), plan) for mark, stretch, plan in cut.calls()])


def behind_out(stretch, address):
    """The stretch of the same rows without the one at an address; raises NoStretch if none is left."""
    gap, many = stretch
    if len(address) == len(gap) and stands_in(address, stretch):
        many -= 1
    if many == 0 or leads_into(gap, address):
        raise NoStretch(stretch)
    return shifted(gap, behind_row(address), -1), many


def name_changed(cut, elder, new):
    """The Cut in which a name of the body is a new one, in plans too."""
    names = cut.body.names()
    if elder not in names or new in names:
        raise NoName(elder)
    body = cut.body.renamed(replaced(names, {elder: new}), replaced(cut.body.marks(), {}))
    return Cut(body, [(mark, stretch, plan_renamed(plan, elder, new)) for mark, stretch, plan in cut.calls()])


def plan_renamed(plan, elder, new):
    """The Plan in which a name is another one."""
    ins, backs = plan.ins(), plan.backs()
    names = replaced(plan.names(), {elder: new})
    return Plan({names[name]: ins[name] for name in ins}, {names[name]: backs[name] for name in backs}, plan.told)


def mark_changed(cut, elder, new):
    """The Cut in which a mark of a row or of a call is a new one."""
    marks, body = cut.body.marks(), cut.body
    if elder not in marks and elder not in cut:
        raise NoMark(elder)
    if new in marks or new in cut:
        raise BadMark(new)
    if elder in marks:
        body = body.renamed(replaced(body.names(), {}), replaced(marks, {elder: new}))
    return Cut(body, [(new if mark == elder else mark, stretch, plan) for mark, stretch, plan in cut.calls()])


def replaced(words, changes):
    """The dict from words to those in their places, which are themselves if changes have no other ones."""
    return {word: changes.get(word, word) for word in words}
