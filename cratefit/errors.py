"""Every refusal of the program, each straight beneath CrateError."""


class CrateError(ValueError):
    pass


class BadSide(CrateError):
    pass


class BadTurn(CrateError):
    pass


class NoText(CrateError):
    pass


class TooMany(CrateError):
    pass


class Ring(CrateError):
    pass


class NoWeighing(CrateError):
    pass


class NoPicker(CrateError):
    pass


class NoSheet(CrateError):
    pass


class NoDrawing(CrateError):
    pass


class NoDeed(CrateError):
    pass


class NoWare(CrateError):
    pass


class Full(CrateError):
    pass


class NothingDone(CrateError):
    pass


class TooWide(CrateError):
    def __init__(self, at):
        self.at = at


class Hangs(CrateError):
    def __init__(self, at):
        self.at = at


class BadPlan(CrateError):
    def __init__(self, why):
        self.why = why


class BadPacking(CrateError):
    def __init__(self, why):
        self.why = why
