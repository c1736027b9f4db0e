"""Columns and tables over a prime, and reduced bases. [1], [3]"""


def zeros(size):
    """The column of the size with zeros alone."""
    return (0,) * size


def unit(size, place):
    """The column of the size with 1 at the place and zeros elsewhere."""
    return zeros(place) + (1,) + zeros(size - place - 1)


def still_table(size):
    """The table that changes nothing."""
    return tuple([unit(size, place) for place in range(size)])


def zero_table(lines, entries):
    """The table that leads everything to zeros."""
    return (zeros(entries),) * lines


def from_columns(columns, lines):
    """The table whose columns, each of the size lines, are these."""
    # Without columns zip would forget the lines, so the number of lines is passed.
    return tuple([tuple([column[place] for column in columns]) for place in range(lines)])


def columns_of(table, size):
    """The columns of a table with so many entries a line."""
    return tuple([tuple([line[place] for line in table]) for place in range(size)])


def times_table(prime, table, column):
    """The column to which the table leads the column."""
    return tuple([sum([a * b for a, b in zip(line, column)]) % prime for line in table])


def behind_table(prime, one, other, size):
    """The table that leads as one and then other do; lines of one have so many entries."""
    led = [times_table(prime, other, column) for column in columns_of(one, size)]
    return from_columns(led, len(other))


def less_times(prime, column, factor, taken):
    """The column less factor times the taken one."""
    return tuple([(a - factor * b) % prime for a, b in zip(column, taken)])


def inverse(prime, number):
    """The integer that makes 1 of a number that is not 0."""
    return [k for k in range(1, prime) if k * number % prime == 1][0]


def scaled(prime, column, place):
    """The multiple of the column that has 1 at the place."""
    factor = inverse(prime, column[place])
    return tuple([factor * a % prime for a in column])


def reduced(prime, columns, size):
    """The reduced basis of the least lot that has these columns."""
    found = list(columns)
    done = 0
    for place in range(size):
        fitting = [at for at in range(done, len(found)) if found[at][place] != 0]
        if not fitting:
            continue
        pivot = scaled(prime, found[fitting[0]], place)
        found[fitting[0]] = found[done]
        found[done] = pivot
        for at, column in enumerate(list(found)):
            if at != done and column[place] != 0:
                found[at] = less_times(prime, column, column[place], pivot)
        done += 1
    return tuple(found[:done])


def kernel(prime, table, size):
    """The reduced basis of the columns of the size that the table leads to zeros."""
    # Lines are reduced from their ends, so that each wanted column leads with its own free place.
    turned = reduced(prime, tuple([line[::-1] for line in table]), size)
    lasts = [size - 1 - line.index(1) for line in turned]
    basis = []
    for free in range(size):
        if free not in lasts:
            column = list(unit(size, free))
            for last, line in zip(lasts, turned):
                column[last] = -line[size - 1 - free] % prime
            basis.append(tuple(column))
    return tuple(basis)


def image(prime, table, size):
    """The reduced basis of the columns to which the table leads those of the size."""
    return reduced(prime, columns_of(table, size), len(table))


def rank(prime, table):
    """How many columns the reduced basis of the image has."""
    size = len(table[0]) if table else 0
    return len(reduced(prime, table, size))


def solved(prime, table, size, column):
    """The column of the size that is led to the column, 0 at the lead places of the kernel; or None."""
    # Reduced from their ends, the lines lead with just the places that are no lead place of the kernel.
    wide = tuple([line[::-1] + (entry,) for line, entry in zip(table, column)])
    found = list(zeros(size))
    for line in reduced(prime, wide, size + 1):
        place = line.index(1)
        if place == size:
            return None
        found[size - 1 - place] = line[size]
    return tuple(found)


def turned_back(prime, table):
    """The table that undoes the table, or None."""
    size = len(table)
    if size and len(table[0]) != size:
        return None
    wide = tuple([line + unit(size, place) for place, line in enumerate(table)])
    lines = reduced(prime, wide, 2 * size)
    if tuple([line[:size] for line in lines]) != still_table(size):
        return None
    return tuple([line[size:] for line in lines])
