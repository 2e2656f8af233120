"""The refusals of the program."""


class WishError(ValueError):
    pass


class BadHouse(WishError):
    pass


class BadWord(WishError):
    pass


class BadChoice(WishError):
    pass


class Unpleased(WishError):
    # Whoever raises this hands in a Torn made for it alone, so that the one who takes it may change it freely.
    def __init__(self, torn):
        WishError.__init__(self, "no choice pleases all wishes of the house")
        self.torn = torn


class BadText(WishError):
    def __init__(self, place):
        WishError.__init__(self, "the text is no house as it is written")
        self.place = place
