"""The refusals."""


class OnceError(ValueError):
    """Any refusal."""


class NoBlock(OnceError):
    """What was asked for is no block, or none that is reached."""


class NoName(OnceError):
    """What was asked for is no name of the program."""


class NoForm(OnceError):
    """The form isn't good."""


class NoStep(OnceError):
    """The form doesn't have the step."""


class NoText(OnceError):
    """The text isn't that of a program or form."""
