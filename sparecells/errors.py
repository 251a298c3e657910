"""The errors of the package.

Each one derives from CellsError alone, so each that has a field `value` sets it itself.
"""


class CellsError(ValueError):
    """The base of all errors of the package."""


class InvalidCount(CellsError):
    """Raised for an argument that has to be a count, within the bounds that are told, and is not."""

    def __init__(self, value=None):
        CellsError.__init__(self, "not a count that can be taken here")
        self.value = value


class InvalidNeeds(CellsError):
    """Raised for an argument that has to be what new blocks need, and is not."""

    def __init__(self, value=None):
        CellsError.__init__(self, "not what new blocks need")
        self.value = value


class InvalidRecipe(CellsError):
    """Raised for an argument that has to be a recipe, and is not."""

    def __init__(self, value=None):
        CellsError.__init__(self, "not a recipe")
        self.value = value


class InvalidBlock(CellsError):
    """Raised for an argument that has to be a new block of a recipe, or an old one where that is told, and is not."""

    def __init__(self, value=None):
        CellsError.__init__(self, "not a block of this kind")
        self.value = value


class InvalidLot(CellsError):
    """Raised for an argument that has to be a lot, and is not."""

    def __init__(self, value=None):
        CellsError.__init__(self, "not a lot")
        self.value = value


class InvalidLots(CellsError):
    """Raised for an argument that has to be a list of lots, and is not."""

    def __init__(self, value=None):
        CellsError.__init__(self, "not a list of lots")
        self.value = value


class InvalidOrder(CellsError):
    """Raised for an argument that has to be an order, or what is told in its stead, and is not."""

    def __init__(self, value=None):
        CellsError.__init__(self, "not an order")
        self.value = value


class InvalidBound(CellsError):
    """Raised for an argument that has to be a bound, a count, and is not."""

    def __init__(self, value=None):
        CellsError.__init__(self, "not a bound")
        self.value = value


class InvalidRow(CellsError):
    """Raised for an argument that has to be a row of lots, and is not."""

    def __init__(self, value=None):
        CellsError.__init__(self, "not a row of lots")
        self.value = value


class InvalidCells(CellsError):
    """Raised for an argument that has to be a number of cells, and is not."""

    def __init__(self, value=None):
        CellsError.__init__(self, "not a number of cells")
        self.value = value


class InvalidCell(CellsError):
    """Raised for an argument that has to be a cell of a device, and is not."""

    def __init__(self, value=None):
        CellsError.__init__(self, "not a cell of the device")
        self.value = value


class InvalidContent(CellsError):
    """Raised for an argument that has to be a state of the cells, and is not."""

    def __init__(self, value=None):
        CellsError.__init__(self, "not a state of the cells")
        self.value = value


class InvalidDeed(CellsError):
    """Raised for an argument that has to be a deed, and is not."""

    def __init__(self, value=None):
        CellsError.__init__(self, "not a deed")
        self.value = value


class InvalidCourse(CellsError):
    """Raised for an argument that has to be a course, and is not."""

    def __init__(self, value=None):
        CellsError.__init__(self, "not a course")
        self.value = value


class InvalidCuts(CellsError):
    """Raised for an argument that has to be cuts of a day, and is not."""

    def __init__(self, value=None):
        CellsError.__init__(self, "not cuts of a day")
        self.value = value


class InvalidDevice(CellsError):
    """Raised for an argument that has to be a device, and is not."""

    def __init__(self, value=None):
        CellsError.__init__(self, "not a device")
        self.value = value


class InvalidScript(CellsError):
    """Raised for an argument that has to be a script, and is not."""

    def __init__(self, value=None):
        CellsError.__init__(self, "not a script")
        self.value = value


class InvalidText(CellsError):
    """Raised for an argument that has to be a text that a writer makes, and is not."""

    def __init__(self, value=None):
        CellsError.__init__(self, "not a text that the writer makes")
        self.value = value


class InvalidRecord(CellsError):
    """Raised for an argument that has to be a record of a device, and is not."""

    def __init__(self, value=None):
        CellsError.__init__(self, "not a record of a device")
        self.value = value


class Refused(CellsError):
    """Raised for something that cannot be done as it stands."""

    def __init__(self, value=None):
        CellsError.__init__(self, "cannot be done as it stands")
        self.value = value


class NothingToUndo(CellsError):
    """Raised where nothing can be taken back."""


class NothingToRedo(CellsError):
    """Raised where nothing can be made again."""
