"""Texts of orders and patches. [57]

What reads a text gets the place from which on it reads, and returns what it has read and the place behind it.
"""

from patchrooms.errors import NotPatch, NotText
from patchrooms.kinds import PRIMES, is_table
from patchrooms.orders import MOST_SPOTS, covers_of, order_of
from patchrooms.patches import MOST_AT_A_SPOT, has_sizes, leads_of, need_patch
from patchrooms.tables import behind_table, still_table, zero_table

FIGURES = "0123456789"
MOST_PAIRS = 120
MOST_LINES = 8
MOST_ENTRY = 12


def order_text(order):
    """The text of the order."""
    told = [f"{x}<{y}" for x, y in covers_of(order)]
    return ": ".join([str(order[0]), ", ".join(told)]) if told else str(order[0])


def table_text(table):
    """The text of a table of a patch."""
    if not table or not table[0]:
        return "-"
    return "/".join([" ".join([str(entry) for entry in line]) for line in table])


def patch_text(patch):
    """The text of the patch."""
    prime, order, sizes, _ = patch
    leads = leads_of(patch)
    told = " ".join([str(size) for size in sizes])
    tables = ", ".join([table_text(leads[pair]) for pair in covers_of(order)])
    return "; ".join([str(prime), order_text(order), told, tables])


def has_sign(text, at, sign):
    """Whether the sign stands at the place."""
    return at < len(text) and text[at] == sign


def behind_signs(text, at, signs):
    """The place behind these signs, which must stand here."""
    for more, sign in enumerate(signs):
        if not has_sign(text, at + more, sign):
            raise NotText(at + more)
    return at + len(signs)


def figure_at(text, at):
    """The figure at the place, -1 if there is none."""
    return FIGURES.find(text[at]) if at < len(text) else -1


def number_at(text, at, most):
    """An integer up to most, without a leading zero."""
    number = figure_at(text, at)
    if number < 0 or number > most:
        raise NotText(at)
    place = at + 1
    # The number ends ahead of a figure that would make it too great, as it ends ahead of any other sign.
    while number > 0 and figure_at(text, place) >= 0 and 10 * number + figure_at(text, place) <= most:
        number = 10 * number + figure_at(text, place)
        place += 1
    return number, place


def prime_at(text, at):
    """One of the primes."""
    for prime in PRIMES:
        if text.startswith(str(prime), at):
            return prime, at + len(str(prime))
    # A 1 alone is the beginning of 11 and of 13.
    raise NotText(at + 1 if has_sign(text, at, "1") else at)


def pair_at(text, at, n):
    """A pair of spots below n."""
    x, place = number_at(text, at, n - 1)
    y, place = number_at(text, behind_signs(text, place, "<"), n - 1)
    return (x, y), place


def order_at(text, at):
    """The number of spots and the pairs that the text of an order tells."""
    n, place = number_at(text, at, MOST_SPOTS)
    pairs = []
    # Without a spot no pair can follow.
    sign, more = ":", n > 0
    while more and has_sign(text, place, sign):
        pair, place = pair_at(text, behind_signs(text, place, sign + " "), n)
        pairs.append(pair)
        sign, more = ",", len(pairs) < MOST_PAIRS
    return (n, tuple(pairs)), place


def read_order(text):
    """The order that the text tells."""
    told, place = order_at(text, 0)
    if place < len(text):
        raise NotText(place)
    return order_of(told[0], told[1])


def numbers_at(text, at, most, many):
    """One integer up to most, and further ones behind a blank each, not more than so many."""
    number, place = number_at(text, at, most)
    numbers = [number]
    while len(numbers) < many and has_sign(text, place, " "):
        number, place = number_at(text, place + 1, most)
        numbers.append(number)
    return tuple(numbers), place


def sizes_at(text, at):
    """The sizes, perhaps none."""
    if has_sign(text, at, ";"):
        return (), at
    return numbers_at(text, at, MOST_AT_A_SPOT, MOST_SPOTS)


def table_at(text, at):
    """The lines of a table, none for one without lines or without entries."""
    if has_sign(text, at, "-"):
        return (), at + 1
    line, place = numbers_at(text, at, MOST_ENTRY, MOST_LINES)
    lines = [line]
    while len(lines) < MOST_LINES and has_sign(text, place, "/"):
        line, place = numbers_at(text, place + 1, MOST_ENTRY, MOST_LINES)
        lines.append(line)
    return tuple(lines), place


def tables_at(text, at):
    """The tables, perhaps none."""
    if at == len(text):
        return (), at
    table, place = table_at(text, at)
    tables = [table]
    while len(tables) < MOST_PAIRS and has_sign(text, place, ","):
        table, place = table_at(text, behind_signs(text, place, ", "))
        tables.append(table)
    return tuple(tables), place


def told_leads(prime, order, sizes, tables):
    """The table of each cover that the tables tell."""
    covers = covers_of(order)
    if len(tables) != len(covers):
        raise NotPatch("table", -1)
    leads = {}
    for (x, y), table in zip(covers, tables):
        # What is told as having no lines may have lines without entries.
        led = zero_table(sizes[y], 0) if sizes[x] == 0 and not table else table
        # Covers ascend as pairs do, so the first wrong one here is the first one among all pairs.
        if not is_table(prime, led, sizes[y], sizes[x]):
            raise NotPatch("table", order[1].index((x, y)))
        leads[x, y] = led
    return leads


def led_by_covers(prime, order, sizes, leads, x, z):
    """The table from x to z along the way of covers whose tuple of spots is the least."""
    place, table = x, still_table(sizes[x])
    while place != z:
        # The least way goes on to the least spot from which z can still be reached.
        nearer = min([y for low, y in leads if low == place and (y == z or (y, z) in order[1])])
        table = behind_table(prime, table, leads[place, nearer], sizes[x])
        place = nearer
    return table


def read_patch(text):
    """The patch that the text tells."""
    prime, place = prime_at(text, 0)
    told, place = order_at(text, behind_signs(text, place, "; "))
    sizes, place = sizes_at(text, behind_signs(text, place, "; "))
    tables, place = tables_at(text, behind_signs(text, place, "; "))
    if place < len(text):
        raise NotText(place)
    order = order_of(told[0], told[1])
    if not has_sizes(order, sizes):
        raise NotPatch("sizes", -1)
    leads = told_leads(prime, order, sizes, tables)
    whole = tuple([led_by_covers(prime, order, sizes, leads, x, z) for x, z in order[1]])
    return need_patch((prime, order, sizes, whole))
