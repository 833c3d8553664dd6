"""Shifts: where rows stand when others are put in or taken out."""


def shifted(address, gap, by):
    """The address, or gap, if the rows behind a gap in its list have moved on by so many."""
    at = len(gap) - 1
    if address[:at] != gap[:at] or address[at] < gap[at]:
        return address
    return (*address[:at], address[at] + by, *address[at + 1:])


def behind_row(address):
    """The gap just behind the row at an address."""
    return (*address[:-1], address[-1] + 1)


def leads_into(address, outer):
    """Whether an address, or gap, stands in the lists of the row at another address."""
    return len(address) > len(outer) and address[:len(outer)] == outer


def lifted(address, outer):
    """The address of what stands in a list of the row at outer, if the list takes the place of this row."""
    at = len(outer)
    return (*outer[:-1], outer[-1] + address[at + 1], *address[at + 2:])
