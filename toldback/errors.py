"""The refusals: each is made with one text, which str tells."""


class BackError(ValueError):
    """Any refusal."""


class NoFraction(BackError):
    """A fraction was due."""


class NoPrime(BackError):
    """A prime, or a list of primes, was due."""


class NoReadings(BackError):
    """Readings were due."""


class NoBounds(BackError):
    """Bounds were due."""


class NoNumber(BackError):
    """A number was due."""


class TooFew(BackError):
    """Too little was told to tell back one."""


class TooMany(BackError):
    """More came than is held."""


class NoText(BackError):
    """A text that writes something was due."""


class NoName(BackError):
    """What the row speaks of is not there."""


class NoRow(BackError):
    """A row was due."""


class NoPoly(BackError):
    """A polynomial was due."""


class NoQuotient(BackError):
    """A quotient was due."""


class NoWorths(BackError):
    """Worths were due."""


class NoDegrees(BackError):
    """Degrees were due."""
