"""Which values of any kind are integers, tuples of integers, tables. [1]"""

PRIMES = (2, 3, 5, 7, 11, 13)


def is_whole(value, low, high):
    """Whether the value is an integer from low to high."""
    # Python takes True and False for integers; the document does not.
    return isinstance(value, int) and not isinstance(value, bool) and low <= value <= high


def is_wholes(value, many, low, high):
    """Whether the value is a tuple of so many integers from low to high."""
    return isinstance(value, tuple) and len(value) == many and all(is_whole(k, low, high) for k in value)


def is_prime(value):
    """Whether the value is one of the primes."""
    return is_whole(value, PRIMES[0], PRIMES[-1]) and value in PRIMES


def is_table(prime, value, lines, entries):
    """Whether the value is a table over the prime with these numbers of lines and entries a line."""
    if not isinstance(value, tuple) or len(value) != lines:
        return False
    return all(is_wholes(line, entries, 0, prime - 1) for line in value)
