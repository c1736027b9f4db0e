"""A desk that stands on a patch and remembers what was done. [58]"""

from patchrooms.duals import dual_patch
from patchrooms.errors import NotDeed, NothingBack, NotLeading
from patchrooms.leadings import bared, need_leading
from patchrooms.moved import back_patch, forward_patch, gathered_patch
from patchrooms.orders import is_spot_set
from patchrooms.patches import cut_patch, is_order, patch_breach
from patchrooms.sums import mixed_patch, sum_patch

# How many entries a deed with this word has.
ENTRIES = {"cut": 2, "dual": 1, "bare": 1, "sum": 2, "mixed": 2, "forward": 3, "gathered": 3, "back": 3}


def is_deed_form(value):
    """Whether the value begins with a word of a deed and has as many entries."""
    if not isinstance(value, tuple) or not value or not isinstance(value[0], str):
        return False
    return value[0] in ENTRIES and len(value) == ENTRIES[value[0]]


def need_led(order, word, other, value):
    """Refuse what is no leading between the desk's order and the deed's other one."""
    one, onto = (other, order) if word == "back" else (order, other)
    try:
        need_leading(one, onto, value)
    except NotLeading:
        raise NotDeed(2) from None


def need_deed(order, value):
    """Refuse what is no deed for a desk on a patch over the order."""
    if not is_deed_form(value):
        raise NotDeed(-1)
    word = value[0]
    if word == "cut" and not is_spot_set(order, value[1]):
        raise NotDeed(1)
    if word in ("sum", "mixed") and patch_breach(value[1]) is not None:
        raise NotDeed(1)
    if word in ("forward", "gathered", "back"):
        if not is_order(value[1]):
            raise NotDeed(1)
        need_led(order, word, value[1], value[2])


def cut_by(patch, deed):
    """What one of the deeds that cut or turn the patch makes of it."""
    if deed[0] == "cut":
        return cut_patch(patch, deed[1])
    if deed[0] == "bare":
        return cut_patch(patch, bared(patch[1]))
    return dual_patch(patch)


def put_together(patch, deed):
    """What a deed with another patch makes of the patch."""
    if deed[0] == "sum":
        return sum_patch(patch, deed[1])
    return mixed_patch(patch, deed[1])


def moved_by(patch, deed):
    """What a deed with a leading makes of the patch."""
    if deed[0] == "forward":
        return forward_patch(patch, deed[1], deed[2])
    if deed[0] == "gathered":
        return gathered_patch(patch, deed[1], deed[2])
    return back_patch(patch, deed[1], deed[2])


def after(patch, deed):
    """The patch that comes of a value done to the patch, if it is a deed."""
    need_deed(patch[1], deed)
    if deed[0] in ("cut", "bare", "dual"):
        return cut_by(patch, deed)
    if deed[0] in ("sum", "mixed"):
        return put_together(patch, deed)
    return moved_by(patch, deed)


class Desk:
    """Stands on a patch and remembers the last deeds, at most so many."""

    def __init__(self, patch, *, most=12):
        self._patch = patch
        self._most = most
        # The remembered deeds, each with the patch on which it was done.
        self._past = []

    @property
    def patch(self):
        """The patch on which the desk stands."""
        return self._patch

    @property
    def order(self):
        """The order of the patch on which the desk stands."""
        return self._patch[1]

    def done(self, deed):
        """Do the deed and remember it."""
        made = after(self._patch, deed)
        past = self._past + [(deed, self._patch)]
        self._past = past[max(0, len(past) - self._most):]
        self._patch = made

    def undone(self):
        """Take the last remembered deed back."""
        if not self._past:
            raise NothingBack("no deed is remembered")
        self._patch = self._past[-1][1]
        self._past = self._past[:-1]

    def count(self):
        """How many deeds are remembered."""
        return len(self._past)

    def deeds(self):
        """The remembered deeds, the oldest first."""
        return tuple([deed for deed, _ in self._past])

    def trial(self, deeds):
        """The patch that would come of the deeds done one behind the other."""
        if not isinstance(deeds, tuple):
            raise NotDeed(-1)
        found = self._patch
        for deed in deeds:
            found = after(found, deed)
        return found
