"""Holes moved along a leading. [37]"""

from patchrooms.holes import cut_holes, hole_lots, hole_sizes
from patchrooms.loads import need_loads
from patchrooms.moved import led_above
from patchrooms.orders import height
from patchrooms.patches import cut_patch, need_sizes


def forward_holes(patch, other, led, k):
    """The patch over other of the holes of the degree k of what is led to a spot or above it, told by parts."""
    need_loads(patch)
    upper = [led_above(other, led, y) for y in range(other[0])]
    lots = [hole_lots(cut_patch(patch, spots), k) for spots in upper]
    sizes = tuple([len(basis) for _, basis in lots])
    need_sizes(sizes)
    tables = [cut_holes(patch, upper[y], upper[z], k, lots[y], lots[z]) for y, z in other[1]]
    return patch[0], other, sizes, tuple(tables)


def moved_holes_bound(patch, other, led):
    """For each degree the sum over the hole sizes i of the moved holes of the degrees that are left to it."""
    many = height(patch[1]) + 1
    moved = [forward_holes(patch, other, led, k) for k in range(many)]
    sizes = [hole_sizes(part) for part in moved]
    # Beyond the height of other the moved holes have no holes.
    return tuple([sum([sizes[k - i][i] for i in range(k + 1) if i < len(sizes[k - i])]) for k in range(many)])
