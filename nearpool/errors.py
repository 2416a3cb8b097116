"""The errors by which the program refuses what it is handed."""


class PoolError(ValueError):
    """What every refusal stands straight under."""


class BadCells(PoolError):
    """Refuses cells that are no laying of rows; made with words."""


class BadText(PoolError):
    """Refuses a text; its field row is the number of the row at fault."""

    def __init__(self, row):
        PoolError.__init__(self, f"row {row} is not written as it must be")
        self.row = row
