"""The refusals of the package, each an error of its own."""


class PairsError(ValueError):
    """What every refusal of this package stands under."""


class TooMany(PairsError):
    """There are more ties, groups or things than the question takes."""


class NoRise(PairsError):
    """A chance was to be raised to a lesser one."""


class NotTwoSided(PairsError):
    """The web has no two sides."""


class NoText(PairsError):
    """What was to be read is no web's text."""


def refuse_above(many, most):
    """Refuse more ties, or groups, than the question takes."""
    if many > most:
        raise TooMany(f"{many} are more than {most}")
