"""The refusals of the program, each with a class of its own."""


class FloorError(ValueError):
    """Any refusal."""


class NoRow(FloorError):
    """A row of values or bits that does not fit."""


class NoTables(FloorError):
    """Tables that are not as told."""


class NoPack(FloorError):
    """A pack that is not as told."""


class NoFloor(FloorError):
    """Sizes that no floor has."""


class OutOfFloor(FloorError):
    """A box, side, track, pad or wire that the floor does not have."""


class NoRoom(FloorError):
    """A floor that is too small, or places that are not as told."""


class NoText(FloorError):
    """A text that is not as told; line is the number of the row at fault."""

    def __init__(self, line):
        FloorError.__init__(self, "a row of the text can not stand there as it is")
        self.line = line


class NoSense(FloorError):
    """Modules without a sense; line is the number of the row at fault in the written text."""

    def __init__(self, line):
        FloorError.__init__(self, "a row of the modules has no sense")
        self.line = line


class NoNet(FloorError):
    """Gates or outs that make no net; gate is the number of the gate at fault, -1 for outs."""

    def __init__(self, gate):
        FloorError.__init__(self, "a gate or an out is not as told")
        self.gate = gate


class NoWays(FloorError):
    """No ways were found; signal is the number of a signal without one."""

    def __init__(self, signal):
        FloorError.__init__(self, "a signal found no way")
        self.signal = signal


class NoBits(FloorError):
    """A row of bits that is no board's; why is the word for what is wrong."""

    def __init__(self, why):
        FloorError.__init__(self, "the row of bits is no board")
        self.why = why
