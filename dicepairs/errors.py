"""The refusals of the package."""


class DiceError(ValueError):
    """Any refusal."""


class BadDie(DiceError):
    """What was handed in as a die is none."""


class BadDice(DiceError):
    """What was handed in as a list of dice is none, or has too few or too many."""


class BadNumber(DiceError):
    """What was handed in as a number is none, or is out of its range."""


class BadCounts(DiceError):
    """What was handed in as counts of sums is none."""


class BadText(DiceError):
    """What was handed in as a text of a die is none."""
