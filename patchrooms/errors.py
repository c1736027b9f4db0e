"""The errors of the package, each a direct subclass of PatchError alone. [2]"""


class PatchError(ValueError):
    """Whatever the package refuses."""


class NotOrder(PatchError):
    """No order; rule is the first broken one."""

    def __init__(self, rule):
        super().__init__(f"no order: the rule {rule} is broken")
        self.rule = rule


class NotLeading(PatchError):
    """No leading; place is the first pair that is led otherwise, or -1."""

    def __init__(self, place):
        super().__init__(f"no leading: place {place}")
        self.place = place


class NotPatch(PatchError):
    """No patch; rule is the first broken one, place where it is broken, or -1."""

    def __init__(self, rule, place):
        super().__init__(f"no patch: the rule {rule} is broken at place {place}")
        self.rule = rule
        self.place = place


class NotMap(PatchError):
    """No map; place is the first pair at which two roads differ, or -1."""

    def __init__(self, place):
        super().__init__(f"no map: place {place}")
        self.place = place


class NotFit(PatchError):
    """Patches that do not belong together."""


class NotExact(PatchError):
    """Maps that are no exact row."""


class NotHole(PatchError):
    """A load whose border is not 0."""


class NotFiner(PatchError):
    """A cover that is not finer than another one."""


class NotRound(PatchError):
    """An order that is not round."""


class NotCover(PatchError):
    """No cover; place is the first thing that is wrong, or -1."""

    def __init__(self, place):
        super().__init__(f"no cover: place {place}")
        self.place = place


class NotRow(PatchError):
    """No way row; place is the first way that is none, or -1."""

    def __init__(self, place):
        super().__init__(f"no way row: place {place}")
        self.place = place


class NotWalk(PatchError):
    """No walk; place is the first wrong step, or -1."""

    def __init__(self, place):
        super().__init__(f"no walk: place {place}")
        self.place = place


class NotStill(PatchError):
    """A patch that is not still."""


class NotTied(PatchError):
    """An order that is not tied."""


class NotWeb(PatchError):
    """A patch that lies over no order of a web."""


class NotText(PatchError):
    """No such text; place is where it stops being the beginning of one."""

    def __init__(self, place):
        super().__init__(f"no such text from place {place} on")
        self.place = place


class NotDeed(PatchError):
    """No deed; place is the first entry that is not valid, or -1."""

    def __init__(self, place):
        super().__init__(f"no deed: place {place}")
        self.place = place


class NothingBack(PatchError):
    """No remembered deed to take back."""


class TooMany(PatchError):
    """More than limit of something."""

    def __init__(self, limit):
        super().__init__(f"more than {limit}")
        self.limit = limit
