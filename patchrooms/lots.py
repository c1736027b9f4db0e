"""Lots of columns, told by their reduced bases. [4]"""

from patchrooms.tables import from_columns, kernel, less_times, reduced, times_table


def lead_places(basis):
    """The lead places of a reduced basis, ascending."""
    return [column.index(1) for column in basis]


def free_places(basis, size):
    """The places of columns of the size that are no lead places, ascending."""
    leads = lead_places(basis)
    return [place for place in range(size) if place not in leads]


def parts_of(prime, basis, column):
    """The entries at the lead places of a column of the lot."""
    return tuple([column[place] for place in lead_places(basis)])


def of_parts(prime, basis, parts, size):
    """The column of the size that the parts tell."""
    return times_table(prime, from_columns(basis, size), parts)


def taken_off(prime, basis, column):
    """The column with 0 at the lead places that differs from it by a column of the lot."""
    for lead_column, place in zip(basis, lead_places(basis)):
        if column[place] != 0:
            column = less_times(prime, column, column[place], lead_column)
    return column


def rest_of(prime, basis, column, size):
    """What is left of a column at the free places."""
    left = taken_off(prime, basis, column)
    return tuple([left[place] for place in free_places(basis, size)])


def of_rest(basis, rest, size):
    """The column of the size with 0 at the lead places that has the rest."""
    column = [0] * size
    for place, entry in zip(free_places(basis, size), rest):
        column[place] = entry
    return tuple(column)


def within(prime, one, other):
    """Whether the lot one is part of the lot other."""
    return not any(any(taken_off(prime, other, column)) for column in one)


def meet(prime, one, other, size):
    """The reduced basis of what is in both lots."""
    # Sums of columns of one that, with sums of columns of other, make zeros are just those in both.
    both = from_columns(one + other, size)
    found = [of_parts(prime, one, parts[:len(one)], size) for parts in kernel(prime, both, len(one) + len(other))]
    return reduced(prime, tuple(found), size)


def join(prime, one, other, size):
    """The reduced basis of all sums of columns of both lots."""
    return reduced(prime, one + other, size)
