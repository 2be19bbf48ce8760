"""The errors of the package: RingError and its direct subclasses."""


class RingError(Exception):
    """The base class of all errors of the package."""


class BadRings(RingError):
    """A thing that is no rings."""

    def __init__(self, thing):
        self.thing = thing


class BadPlace(RingError):
    """A thing that is no place, or no label, of the rings."""

    def __init__(self, thing):
        self.thing = thing


class BadLot(RingError):
    """A thing that is no lot of the rings."""

    def __init__(self, thing):
        self.thing = thing


class BadOrder(RingError):
    """A thing that is no order, or not one that is asked for."""

    def __init__(self, thing):
        self.thing = thing


class BadNumber(RingError):
    """A thing that is no number of the order."""

    def __init__(self, thing):
        self.thing = thing


class BadCount(RingError):
    """A thing that is no integer, or not one that is asked for."""

    def __init__(self, thing):
        self.thing = thing


class BadRow(RingError):
    """A thing that is no row on the rings."""

    def __init__(self, thing):
        self.thing = thing


class BadWhole(RingError):
    """A thing that is no whole row on the rings."""

    def __init__(self, thing):
        self.thing = thing


class BadItems(RingError):
    """A thing that is no tuple of integers, as many as can be."""

    def __init__(self, thing):
        self.thing = thing


class BadHeard(RingError):
    """A thing that is no heard voices."""

    def __init__(self, thing):
        self.thing = thing


class BadSeen(RingError):
    """A thing that is no seen items."""

    def __init__(self, thing):
        self.thing = thing


class BadSteps(RingError):
    """A thing that is no steps for the rings."""

    def __init__(self, thing):
        self.thing = thing


class Nought(RingError):
    """Zero was to be inverted."""

    def __init__(self):
        super().__init__()


class Unfit(RingError):
    """No row fits, and the certificate bars it."""

    def __init__(self, certificate):
        self.certificate = certificate


class TooMany(RingError):
    """An item would be beyond the most that it can be."""

    def __init__(self, most):
        self.most = most


class BadDeed(RingError):
    """A thing that is no deed for the rings."""

    def __init__(self, thing):
        self.thing = thing


class BadClaim(RingError):
    """A thing that is no claim for the rings, or one that the desk has already."""

    def __init__(self, thing):
        self.thing = thing


class Unkept(RingError):
    """A claim that does not hold, or would not."""

    def __init__(self, claim):
        self.claim = claim


class NoClaim(RingError):
    """A thing that is no claim of the desk."""

    def __init__(self, thing):
        self.thing = thing


class NothingToUndo(RingError):
    """Nothing is left to be undone."""

    def __init__(self):
        super().__init__()


class NothingToRedo(RingError):
    """Nothing is left to be done again."""

    def __init__(self):
        super().__init__()


class BadText(RingError):
    """A text that tells no desk: the number of the first wrong line."""

    def __init__(self, at):
        self.at = at
