"""Still patches, walks, and the rules of ways round. [51], [52]"""

from patchrooms.errors import NotStill, NotWalk
from patchrooms.kinds import is_wholes
from patchrooms.orders import rows
from patchrooms.patches import leads_of
from patchrooms.tables import behind_table, still_table, turned_back


def is_still(patch):
    """Whether each table of the patch can be turned back."""
    prime, order, sizes, tables = patch
    for (x, y), table in zip(order[1], tables):
        # A table without lines could have entries a line all the same, so sizes are looked at first.
        if sizes[x] != sizes[y] or turned_back(prime, table) is None:
            return False
    return True


def need_walk(order, value):
    """The value, which is a walk."""
    if not isinstance(value, tuple) or not value or not is_wholes(value, len(value), 0, order[0] - 1):
        raise NotWalk(-1)
    for place in range(1, len(value)):
        x, y = value[place - 1], value[place]
        if x != y and (x, y) not in order[1] and (y, x) not in order[1]:
            raise NotWalk(place)
    return value


def walked(patch, walk):
    """The table that leads along the walk, steps down by the tables turned back."""
    if not is_still(patch):
        raise NotStill("the patch is not still")
    need_walk(patch[1], walk)
    prime, leads = patch[0], leads_of(patch)
    size = patch[2][walk[0]]
    table = still_table(size)
    for place in range(1, len(walk)):
        x, y = walk[place - 1], walk[place]
        if (x, y) in leads:
            table = behind_table(prime, table, leads[x, y], size)
        if (y, x) in leads:
            table = behind_table(prime, table, turned_back(prime, leads[y, x]), size)
    return table


def tree_of_ties(order):
    """The pairs, taken in sequence, that tie what those ahead have not tied."""
    piece = list(range(order[0]))
    taken = []
    for x, y in order[1]:
        if piece[x] != piece[y]:
            taken.append((x, y))
            piece = [piece[x] if number == piece[y] else number for number in piece]
    return tuple(taken)


def round_rules(order):
    """The pairs outside the tree, and for each row of three spots the word that says that both its ways agree."""
    tree = tree_of_ties(order)
    pairs = tuple([pair for pair in order[1] if pair not in tree])
    numbers = {pair: number for number, pair in enumerate(pairs)}
    rules = []
    for x, y, z in rows(order, 2):
        steps = [((x, y), 1), ((y, z), 1), ((x, z), -1)]
        rules.append(tuple([(numbers[pair], turn) for pair, turn in steps if pair in numbers]))
    return pairs, tuple(rules)
