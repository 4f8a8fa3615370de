"""All that the program refuses with."""


class TuneError(ValueError):
    pass


class BadRow(TuneError):
    def __init__(self, row):
        self.row = row


class BadTune(TuneError):
    pass


class OutOfReach(TuneError):
    pass


class TooFine(TuneError):
    def __init__(self, bar, voice):
        self.bar = bar
        self.voice = voice


class BadStretch(TuneError):
    pass


class BadPage(TuneError):
    def __init__(self, row):
        self.row = row


class BadRoll(TuneError):
    pass


class OutOfPlace(TuneError):
    pass


class BadWidth(TuneError):
    pass
