"""The refusals. Each hands its fields on to its base, so that a copy of it is made with the same ones."""


class ReuseError(ValueError):
    pass


class NoText(ReuseError):
    def __init__(self, row):
        ReuseError.__init__(self, row)
        self.row = row


class Twice(ReuseError):
    def __init__(self, name):
        ReuseError.__init__(self, name)
        self.name = name


class Unknown(ReuseError):
    def __init__(self, name):
        ReuseError.__init__(self, name)
        self.name = name


class Misfit(ReuseError):
    def __init__(self, name):
        ReuseError.__init__(self, name)
        self.name = name


class Unheld(ReuseError):
    def __init__(self, name):
        ReuseError.__init__(self, name)
        self.name = name


class Lacking(ReuseError):
    def __init__(self, name, tags):
        # Copies, for what is done later to the list that was handed in may change nothing here.
        ReuseError.__init__(self, name, list(tags))
        self.name = name
        self.tags = list(tags)


class NoValue(ReuseError):
    pass


class Gone(ReuseError):
    pass


class Full(ReuseError):
    pass


class Fault(ReuseError):
    def __init__(self, word):
        ReuseError.__init__(self, word)
        self.word = word
