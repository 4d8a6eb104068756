"""The errors of the program."""


class FootpathError(ValueError):
    """The base class of all errors of the program."""


class SettingsError(FootpathError):
    """A setting, or a number of the jumps, is out of its range."""

    def __init__(self, name):
        super().__init__(f"out of its range: {name}")
        self.name = name


class SoupError(FootpathError):
    """A triangle of a soup, or a box of a list, is not valid."""

    def __init__(self, at):
        super().__init__(f"not valid, at the index {at}")
        self.at = at


class PlaceError(FootpathError):
    """What a call or a command names or needs is not there."""

    def __init__(self, name):
        super().__init__(f"missing or out of reach: {name}")
        self.name = name


class CommandError(FootpathError):
    """A line of a script is no command."""

    def __init__(self, line):
        super().__init__(f"no command in line {line}")
        self.line = line
