"""The refusals of the package, all under NetError and none under another one."""


class NetError(ValueError):
    """What is asked is refused."""


class NoText(NetError):
    """A text that was to be read writes no such thing."""


class TooMany(NetError):
    """A wire changes oftener than is told."""


class NotFormula(NetError):
    """A gate of the net is read at more than one place."""


class NoTurn(NetError):
    """A form can't be turned so."""


class NoForms(NetError):
    """Two forms don't have the same worths."""


class NoRow(NetError):
    """A desk is told a row that it doesn't know."""
