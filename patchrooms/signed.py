"""Counts over an order, added up with signs. [44], [45]"""

from patchrooms.moved import led_above
from patchrooms.orders import down_of, part_order
from patchrooms.ways import signs_between


def row_weights(order):
    """For each spot the sum over all rows that end there of 1 or -1, by their length."""
    below = [[y for y in down_of(order, x) if y != x] for x in range(order[0])]
    weights = [0] * order[0]
    # A row that ends at x is x alone, or one of the length less 1 that ends below x, with x behind it.
    for x in sorted(range(order[0]), key=lambda spot: len(below[spot])):
        weights[x] = 1 - sum([weights[y] for y in below[x]])
    return tuple(weights)


def whole_size(order, count):
    """The sum of the products of the weights and the count."""
    return sum([weight * size for weight, size in zip(row_weights(order), count)])


def part_size(order, count, spots):
    """The whole size over the order of the spots alone."""
    return whole_size(part_order(order, spots), tuple([count[x] for x in spots]))


def forward_count(order, count, other, led):
    """The count that has at each spot of other the part size on what is led to it or above it."""
    return tuple([part_size(order, count, led_above(other, led, y)) for y in range(other[0])])


def back_count(count, led):
    """The count that has at each spot the count of the spot to which it is led."""
    return tuple([count[y] for y in led])


def low_count(order, count):
    """The count that has at each spot the sum with signs of the count at it and below it."""
    signs = signs_between(order)
    return tuple([sum([size * line[y] for size, line in zip(count, signs)]) for y in range(order[0])])


def up_count(order, count):
    """The count that has at each spot the sum of the count at it and below it."""
    return tuple([sum([count[x] for x in down_of(order, y)]) for y in range(order[0])])
