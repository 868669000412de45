"""The errors that this package raises."""


class RootError(ValueError):
    """An argument is not as told."""


class InvalidTable(RootError):
    """This is no table."""

    def __init__(self, given):
        super().__init__("this is no table")
        self.given = given


class InvalidFraction(RootError):
    """This is no fraction, or not one that may stand here."""

    def __init__(self, given):
        super().__init__("this is no fraction, or not one that may stand here")
        self.given = given


class InvalidIndex(RootError):
    """This is no index of what it should lead into."""

    def __init__(self, given):
        super().__init__("this is no index of what it should lead into")
        self.given = given


class InvalidNumber(RootError):
    """This is no whole number, or not one that may stand here."""

    def __init__(self, given):
        super().__init__("this is no whole number, or not one that may stand here")
        self.given = given


class InvalidCounts(RootError):
    """This is no triple of counts, or not one that may stand here."""

    def __init__(self, given):
        super().__init__("this is no triple of counts, or not one that may stand here")
        self.given = given


class InvalidPlaces(RootError):
    """These are no places of the table."""

    def __init__(self, given):
        super().__init__("these are no places of the table")
        self.given = given


class InvalidBounds(RootError):
    """These are no bounds for the table."""

    def __init__(self, given):
        super().__init__("these are no bounds for the table")
        self.given = given


class InvalidRow(RootError):
    """This is no row, or not one that may stand here."""

    def __init__(self, index):
        super().__init__("this is no row, or not one that may stand here")
        self.index = index


class InvalidRows(RootError):
    """These are no free rows, or not such that may stand here."""

    def __init__(self, index):
        super().__init__("these are no free rows, or not such that may stand here")
        self.index = index


class InvalidRoots(RootError):
    """These are no told roots, or not such that may stand here."""

    def __init__(self, index):
        super().__init__("these are no told roots, or not such that may stand here")
        self.index = index


class InvalidSquares(RootError):
    """These are no squares of numbers, or not such that may stand here."""

    def __init__(self, index):
        super().__init__("these are no squares of numbers, or not such that may stand here")
        self.index = index


class InvalidTurns(RootError):
    """These are no turns of the row."""

    def __init__(self, index):
        super().__init__("these are no turns of the row")
        self.index = index


class InvalidBorder(RootError):
    """This is no border of the table."""

    def __init__(self, index):
        super().__init__("this is no border of the table")
        self.index = index
