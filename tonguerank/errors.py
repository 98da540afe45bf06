"""The refusals of the program, each straight under RankError."""


class RankError(ValueError):
    pass


class NoCount(RankError):
    pass


class NoMarks(RankError):
    pass


class NoWord(RankError):
    pass


class NoRanking(RankError):
    pass


class NoRow(RankError):
    pass


class NoMove(RankError):
    pass


class Clash(RankError):
    def __init__(self, places):
        RankError.__init__(self, "no ranking fits all rows")
        # A copy, so that the list is the asker's own.
        self.places = list(places)


class NoSaying(RankError):
    pass


class NoMachine(RankError):
    pass


class NoRoom(RankError):
    pass


class NoLetter(RankError):
    pass


class TooMany(RankError):
    def __init__(self, texts):
        RankError.__init__(self, "the machine would have more than twelve rooms")
        # A copy, so that the list is the asker's own.
        self.texts = list(texts)


class NoNames(RankError):
    pass


class NoText(RankError):
    pass
