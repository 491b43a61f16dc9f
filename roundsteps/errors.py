"""The refusals, one class for each kind."""


class RoundError(ValueError):
    """Any refusal of this package."""


class BadRing(RoundError):
    """No count of places that a ring can have."""


class BadSteps(RoundError):
    """No list of steps."""


class BadPlace(RoundError):
    """No place of the ring."""


class BadCount(RoundError):
    """No count of steps to go."""


class BadNumber(RoundError):
    """No number of a way."""


class BadWay(RoundError):
    """No list of counts of steps."""


class BadPlaces(RoundError):
    """No rising list of places of the ring."""


class BadStep(RoundError):
    """No count of a step."""


class BadTale(RoundError):
    """No tale of a walker."""


class Nothing(RoundError):
    """No step to take back."""
