"""The refusals: one class for each, all of them under TrailError."""


class TrailError(ValueError):
    def __init__(self, words, row=0):
        ValueError.__init__(self, words)
        self.row = row


class NoText(TrailError):
    pass


class NoSign(TrailError):
    pass


class NoRule(TrailError):
    pass


class Big(TrailError):
    pass


class HasKeep(TrailError):
    pass


class NotLayered(TrailError):
    def __init__(self, ring, row=0):
        TrailError.__init__(self, "the rules lean on themselves by a not", row)
        # A copy, so that the ring told stays whatever is done to the one handed in.
        self.ring = list(ring)


class Fault(TrailError):
    def __init__(self, word, row=0):
        TrailError.__init__(self, word, row)
        self.word = word
