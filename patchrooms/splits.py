"""Patches that are the same, and patches split into sums. [14]"""

from patchrooms.errors import TooMany
from patchrooms.maps import image_patch, kernel_patch, map_of_column, map_space, still_map
from patchrooms.patches import level_patch, need_fit, size_in_all
from patchrooms.sums import sum_of
from patchrooms.tables import behind_table, turned_back, zeros

MOST_MAPS = 5000


def few_maps(one, other):
    """The reduced basis of all maps of one to other, which are not too many to be looked at."""
    basis = map_space(one, other)
    many = 1
    for _ in basis:
        many = many * one[0]
    if many > MOST_MAPS:
        raise TooMany(MOST_MAPS)
    return basis


def added_times(prime, column, factor, added):
    """The column and factor times the added one."""
    return tuple([(a + factor * b) % prime for a, b in zip(column, added)])


def all_columns(prime, basis, size):
    """All columns of the lot."""
    found = [zeros(size)]
    for added in basis:
        found = [added_times(prime, column, factor, added) for column in found for factor in range(prime)]
    return found


def all_maps(one, other, basis):
    """All maps that are sums of multiples of those of the basis, each written as one column."""
    return all_columns(one[0], basis, sum([a * b for a, b in zip(one[2], other[2])]))


def is_turnable(prime, led):
    """Whether each table can be turned back."""
    return all(turned_back(prime, table) is not None for table in led)


def same_map(one, other):
    """A map of one to other whose tables can be turned back, or None."""
    basis = few_maps(one, other)
    if one[2] != other[2]:
        return None
    for column in all_maps(one, other, basis):
        led = map_of_column(one, other, column)
        if is_turnable(one[0], led):
            return led
    return None


def is_same(one, other):
    """Whether some map of one to other has only tables that can be turned back."""
    return same_map(one, other) is not None


def is_own_double(prime, led):
    """Whether the map of a patch to itself, done twice, is itself."""
    return all(behind_table(prime, table, table, len(table)) == table for table in led)


def splitting_map(patch):
    """A map of the patch to itself that done twice is itself, neither still nor all 0; or None."""
    basis = few_maps(patch, patch)
    for column in all_maps(patch, patch, basis):
        led = map_of_column(patch, patch, column)
        if any(column) and is_own_double(patch[0], led) and led != still_map(patch):
            return led
    return None


def unsplit_patches(patch):
    """Patches that are not split and not all 0, of which the patch is the sum up to being the same."""
    waiting = [patch]
    found = []
    while waiting:
        part = waiting.pop()
        led = splitting_map(part)
        if led is not None:
            # Such a map splits a patch into what it keeps and what it leads to zeros.
            waiting.append(image_patch(part, part, led))
            waiting.append(kernel_patch(part, part, led))
        elif size_in_all(part) > 0:
            found.append(part)
    return tuple(found)


def unsplit_sizes(patch):
    """The sizes of the patches that are not split of which the patch is the sum, sorted."""
    return tuple(sorted([part[2] for part in unsplit_patches(patch)]))


def sizes_add_up(patch, parts):
    """Whether the sizes of the parts add up to those of the patch."""
    if any(len(part[2]) != len(patch[2]) for part in parts):
        return False
    return all(sum([part[2][x] for part in parts]) == size for x, size in enumerate(patch[2]))


def split_map(patch, parts):
    """A map of the sum of the parts to the patch whose tables can be turned back, or None."""
    if not sizes_add_up(patch, parts):
        return None
    whole = level_patch(patch[0], patch[1], 0)
    for part in parts:
        need_fit(part, patch)
        whole = sum_of(whole, part)
    return same_map(whole, patch)
