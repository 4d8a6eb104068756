"""The measures of the grid and of its walker."""

from footpath.errors import SettingsError


def ceiled(number, unit):
    """Return number / unit rounded up; unit is above 0."""
    return -(-number // unit)


def require(name, holds):
    """Raise SettingsError with the name of a setting that does not hold."""
    if not holds:
        raise SettingsError(name)


class Settings:
    """The settings of a grid and of its walker."""

    def __init__(self, *, columns, rows, cell, level, width, height, step, slope, slack=0, tile=8):
        # The order of these lines decides which setting an error names, and
        # a range may only divide by what a line above has found to be right.
        require("columns", 1 <= columns <= 64)
        require("rows", 1 <= rows <= 64)
        require("cell", 3 <= cell <= 1000)
        require("level", 1 <= level <= 1000)
        require("width", 0 <= width <= 4 * cell)
        require("height", 1 <= height <= 1000 * level)
        require("step", step >= 0 and 2 * (step // level) < ceiled(height, level))
        num, den = slope
        require("slope", 0 <= num <= den <= 1000 and den > 0)
        require("slack", 0 <= slack <= 1000)
        require("tile", 2 <= tile <= 16)
        self.columns = columns
        self.rows = rows
        self.cell = cell
        self.level = level
        self.width = width
        self.height = height
        self.step = step
        self.slope = (num, den)
        self.slack = slack
        self.tile = tile
        self.tall = ceiled(height, level)
        self.rise = step // level
        self.reach = ceiled(width, cell)

    def has_cell(self, i, k):
        """Return True if the cell is in the grid."""
        return 0 <= i < self.columns and 0 <= k < self.rows

    def tiles(self):
        """Return the list of the tiles (a, b) that have cells, by b, then by a."""
        across = range(ceiled(self.columns, self.tile))
        down = range(ceiled(self.rows, self.tile))
        return [(a, b) for b in down for a in across]

    def tile_cells(self, a, b):
        """Return the list of the cells (i, k) of a tile, by k, then by i."""
        across = range(a * self.tile, min((a + 1) * self.tile, self.columns))
        down = range(b * self.tile, min((b + 1) * self.tile, self.rows))
        return [(i, k) for k in down for i in across]
