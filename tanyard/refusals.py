"""The refusals of the calls, each with the error code that is answered."""


class Refusal(Exception):
    def __init__(self, code):
        Exception.__init__(self, code)
        self.code = code


class NoLine(Refusal):
    def __init__(self):
        Refusal.__init__(self, -11)


class NoSuchPit(Refusal):
    def __init__(self):
        Refusal.__init__(self, -2)


class ArgumentOutsideLimits(Refusal):
    def __init__(self):
        Refusal.__init__(self, -22)


class LineAtLimit(Refusal):
    def __init__(self):
        Refusal.__init__(self, -28)


class StrengthNotReached(Refusal):
    def __init__(self):
        Refusal.__init__(self, -33)


class OnlyPit(Refusal):
    def __init__(self):
        Refusal.__init__(self, -33)
