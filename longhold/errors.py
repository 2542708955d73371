"""The refusals: each a class of its own, straight under LandError."""


class LandError(ValueError):
    """Any refusal."""


class BadTerm(LandError):
    """Five numbers that are no terms."""


class BadFact(LandError):
    """A tuple that is no fact, or a way from a field to itself."""


class BadLine(LandError):
    """A text that writes nothing that can be read."""


class NoFolk(LandError):
    """A number of folk that the book has not."""


class NoField(LandError):
    """A number of a field that the book has not."""


class NoFact(LandError):
    """A number under which no fact stands."""


class NoStand(LandError):
    """A number of deeds that the diary has not."""


class Told(LandError):
    """A fact that stands already."""


class Full(LandError):
    """No room for one more."""
