"""The refusals: each a class of its own straight under TrudgeError."""


class TrudgeError(ValueError):
    pass


# A field may be any thing at all, so no refusal writes its field into words of its own.


class BadLand(TrudgeError):
    def __init__(self, at):
        self.at = at


class BadTrip(TrudgeError):
    def __init__(self, at):
        self.at = at


class BadPlan(TrudgeError):
    def __init__(self, at):
        self.at = at


class BadLabel(TrudgeError):
    pass


class Taken(TrudgeError):
    def __init__(self, label):
        self.label = label


class BadWay(TrudgeError):
    pass


class TooMany(TrudgeError):
    def __init__(self, most):
        self.most = most


class NoWay(TrudgeError):
    def __init__(self, label):
        self.label = label


class BadStore(TrudgeError):
    pass


class BadGoal(TrudgeError):
    pass


class NoRow(TrudgeError):
    pass


class NoText(TrudgeError):
    pass


class NoLand(TrudgeError):
    pass
