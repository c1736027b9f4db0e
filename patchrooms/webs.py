"""Webs of places and ties, and patches over them. [55], [56]"""

from patchrooms.blocks import block_table, power, sign_of
from patchrooms.errors import NotWeb
from patchrooms.lots import rest_of
from patchrooms.orders import is_ascending
from patchrooms.patches import lead, leads_of, need_in_all
from patchrooms.tables import image, rank, reduced

MOST_PLACES = 8


def web_order(web):
    """The order of the places and behind them the ties, each above its two places."""
    n, ties = web
    pairs = [(x, n + number) for number, tie in enumerate(ties) for x in tie]
    return n + len(ties), tuple(sorted(pairs))


def web_patch(prime, web, sizes, ends):
    """The patch over the web with these sizes and, for each tie, tables from its lesser and greater place."""
    need_in_all(sizes)
    order = web_order(web)
    leads = {}
    for number, (tie, both) in enumerate(zip(web[1], ends)):
        for x, table in zip(tie, both):
            leads[x, web[0] + number] = table
    return prime, order, sizes, tuple([leads[pair] for pair in order[1]])


def web_of(patch_web):
    """The web over whose order the patch lies."""
    many, pairs = patch_web[1]
    below = [tuple([x for x, y in pairs if y == spot]) for spot in range(many)]
    n = len([lows for lows in below if not lows])
    ties = tuple(below[n:])
    # Without a spot below there are as many as places, so they stand ahead of the ties if no tie is one of them.
    if n > MOST_PLACES or any(len(lows) != 2 for lows in ties) or not is_ascending(ties):
        raise NotWeb("the patch lies over no order of a web")
    return n, ties


def tie_rooms(patch_web, web):
    """For each tie, told by its spot, its size."""
    n = web[0]
    return {n + number: patch_web[2][n + number] for number in range(len(web[1]))}


def border_table(patch_web):
    """The table that leads loads told at places to what both ends of each tie make of them."""
    n, ties = web_of(patch_web)
    places = {x: patch_web[2][x] for x in range(n)}
    blocks = {}
    for number, (x, y) in enumerate(ties):
        tie = n + number
        blocks[tie] = [(y, 1, lead(patch_web, y, tie)), (x, -1, lead(patch_web, x, tie))]
    return block_table(patch_web[0], places, tie_rooms(patch_web, (n, ties)), blocks)


def size_at_places(patch_web):
    """The size of a load told at places."""
    return sum(patch_web[2][:web_of(patch_web)[0]])


def least_load(patch_web, load):
    """The rest of a load on ties by what loads told at places go to."""
    borders = image(patch_web[0], border_table(patch_web), size_at_places(patch_web))
    return rest_of(patch_web[0], borders, load, len(load))


def lines_by_ties(patch_web):
    """For each tie its lines of the border table."""
    table = border_table(patch_web)
    found = []
    for many in tie_rooms(patch_web, web_of(patch_web)).values():
        found.append(table[:many])
        table = table[many:]
    return found


def tie_kinds(patch_web):
    """For each tie by how much the hole size 0 is greater, and the hole size 1 less, without it."""
    prime, parts = patch_web[0], lines_by_ties(patch_web)
    whole = rank(prime, border_table(patch_web))
    kinds = []
    for number, lines in enumerate(parts):
        others = [line for part in parts[:number] + parts[number + 1:] for line in part]
        told = whole - rank(prime, tuple(others))
        kinds.append((told, len(lines) - told))
    return tuple(kinds)


def flow_patch(patch_web, kept):
    """The patch over the same order in which the ties that are not kept have the size 0."""
    n = web_of(patch_web)[0]
    prime, order, sizes, _ = patch_web
    lost = [n + number for number, is_kept in enumerate(kept) if not is_kept]
    leads = leads_of(patch_web)
    tables = tuple([() if y in lost else leads[x, y] for x, y in order[1]])
    return prime, order, tuple([0 if x in lost else size for x, size in enumerate(sizes)]), tables


def tie_choices(patch_web):
    """For each choice of kept ties how many they are, the sum of their sizes and the rank of their lines."""
    size = size_at_places(patch_web)
    found = [(0, 0, ())]
    for lines in lines_by_ties(patch_web):
        more = []
        for many, sizes, basis in found:
            more.append((many + 1, sizes + len(lines), reduced(patch_web[0], basis + lines, size)))
        found = found + more
    return [(many, sizes, len(basis)) for many, sizes, basis in found]


def apart_count(patch_web):
    """How many loads told at places the border table makes zeros at no tie."""
    size = size_at_places(patch_web)
    return sum([sign_of(many) * power(patch_web[0], size - told) for many, _, told in tie_choices(patch_web)])


def flow_count(patch_web):
    """How many tuples of integers, zeros at no tie, the lines of the border table add up to zeros with."""
    ties = len(lines_by_ties(patch_web))
    choices = tie_choices(patch_web)
    return sum([sign_of(ties - many) * power(patch_web[0], sizes - told) for many, sizes, told in choices])
