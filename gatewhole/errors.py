"""The refusals, one class for each."""


class GateError(ValueError):
    pass


class NoGate(GateError):
    pass


class NoClass(GateError):
    pass


class NoInputs(GateError):
    pass


class NoFormula(GateError):
    pass


class NoTable(GateError):
    pass


class NotMade(GateError):
    pass


class NoNote(GateError):
    pass
