"""Still patches made and counted, and orders that lie over an order with sheets. [53], [54]"""

from itertools import permutations
from math import gcd

from patchrooms.blocks import power
from patchrooms.errors import NotStill, NotTied, TooMany
from patchrooms.leadings import is_tied
from patchrooms.orders import need_spots
from patchrooms.patches import need_in_all, wrong_way
from patchrooms.tables import still_table
from patchrooms.walks import round_rules

MOST_CHOICES = 30000
# For each prime the powers of primes that, multiplied, are the prime less 1.
POWERS = {2: (), 3: (2,), 5: (4,), 7: (2, 3), 11: (2, 5), 13: (4, 3)}


def along_pairs(order, still, told):
    """For each pair of the order what is told along it: still along the tree."""
    found = {pair: one for pair, one in zip(round_rules(order)[0], told)}
    return [found.get(pair, still) for pair in order[1]]


def still_patch(prime, order, size, tables):
    """The still patch of the size with these tables along the pairs of the round rules."""
    sizes = (size,) * order[0]
    need_in_all(sizes)
    patch = prime, order, sizes, tuple(along_pairs(order, still_table(size), tables))
    # A rule is broken just where two ways of a patch would not agree.
    if wrong_way(patch) is not None:
        raise NotStill("a rule is broken")
    return patch


def need_tied(order):
    """Refuse an order that is not tied."""
    if not is_tied(order):
        raise NotTied("the order is not tied")


def rule_line(size, rule):
    """The line of the size that adds up what a rule says."""
    line = [0] * size
    for number, turn in rule:
        line[number] += turn
    return line


def line_with(whole, lines, divisor):
    """The first line with an entry that shares just the divisor with the whole, and its place; else None."""
    for at, line in enumerate(lines):
        for place, entry in enumerate(line):
            if gcd(entry, whole) == divisor:
                return at, place
    return None


def cleared(whole, lines, at, place):
    """The other lines, less such multiples of the line at this number that they have 0 at the place."""
    line = lines[at]
    found = []
    for number, other in enumerate(lines):
        if number != at:
            # With the least divisors first, each entry is a multiple of the one at the place.
            factor = [k for k in range(whole) if (k * line[place] - other[place]) % whole == 0][0]
            found.append(tuple([(a - factor * b) % whole for a, b in zip(other, line)]))
    return found


def solution_count(whole, lines, size):
    """How many tuples of so many integers from 0 to whole - 1 all lines make 0 of, whole a power of a prime."""
    count, free = 1, size
    left = [tuple([entry % whole for entry in line]) for line in lines]
    for divisor in [k for k in range(1, whole) if whole % k == 0]:
        found = line_with(whole, left, divisor)
        while found is not None:
            # Lines that say the same, or nothing, are looked at once, or not at all.
            left = [line for line in sorted(set(cleared(whole, left, found[0], found[1]))) if any(line)]
            count, free = count * divisor, free - 1
            found = line_with(whole, left, divisor)
    return count * power(whole, free)


def still_count(prime, order):
    """How many unlike still patches of the size 1 there are over a tied order."""
    need_tied(order)
    pairs, rules = round_rules(order)
    lines = [rule_line(len(pairs), rule) for rule in rules]
    count = 1
    # Integers that are multiplied modulo the prime are, but for 0, added modulo the prime less 1.
    for whole in POWERS[prime]:
        count = count * solution_count(whole, lines, len(pairs))
    return count


def need_few_choices(many, times):
    """Refuse more choices than may be looked at."""
    choices = 1
    for _ in range(times):
        choices = choices * many
        if choices > MOST_CHOICES:
            raise TooMany(MOST_CHOICES)


def is_kept(n, chosen, rule):
    """Whether the chosen exchanges of n things change nothing along the word."""
    for thing in range(n):
        place = thing
        for number, turn in rule:
            place = chosen[number][place] if turn == 1 else chosen[number].index(place)
        if place != thing:
            return False
    return True


def sheet_count(order, n):
    """How many ways there are to give each pair of the round rules an exchange of n things, all rules kept."""
    if order[0] == 0:
        raise NotTied("the order has no spot")
    need_tied(order)
    pairs, rules = round_rules(order)
    every = list(permutations(range(n)))
    need_few_choices(len(every), len(pairs))
    found = [()]
    for last in range(len(pairs)):
        told = [rule for rule in rules if max([number for number, _ in rule]) == last]
        found = [chosen + (exchange,) for chosen in found for exchange in every]
        found = [chosen for chosen in found if all(is_kept(n, chosen, rule) for rule in told)]
    return len(found)


def sheets(order, n, exchanges):
    """The order that lies over the order with n sheets, exchanged along the pairs of the round rules."""
    need_spots(order[0] * n)
    pairs = []
    for (x, y), exchange in zip(order[1], along_pairs(order, tuple(range(n)), exchanges)):
        pairs.extend([(x * n + i, y * n + exchange[i]) for i in range(n)])
    return order[0] * n, tuple(sorted(pairs))


def sheet_leading(order, n):
    """The leading of an order with n sheets to the order that it lies over."""
    return tuple([x for x in range(order[0]) for _ in range(n)])
