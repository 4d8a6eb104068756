"""Worlds: a soup with boxes that come and go, whose plates are built tile by tile."""

from footpath.errors import PlaceError
from footpath.plates import joined_portals, tile_plates
from footpath.solids import cells_of, check_boxes, check_soup, columns_of, merged


def reached_tiles(settings, box):
    """Return the list of the tiles that a box reaches, row by row."""
    cells = cells_of(settings, box)
    if cells is None:
        return []
    i0, k0, i1, k1 = cells
    across = range(tile_at(settings, i0 - settings.reach, settings.columns),
                   tile_at(settings, i1 + settings.reach, settings.columns) + 1)
    down = range(tile_at(settings, k0 - settings.reach, settings.rows),
                 tile_at(settings, k1 + settings.reach, settings.rows) + 1)
    return [(a, b) for b in down for a in across]


def tile_at(settings, number, many):
    """Return which tile along an axis has a cell, or the grid's cell next to it."""
    return min(max(number, 0), many - 1) // settings.tile


class World:
    """A soup, the boxes that stand in it now, and the plates of the tiles."""

    def __init__(self, settings, soup):
        check_soup(soup)
        self.settings = settings
        self.soup = list(soup)
        self.built = 0
        self.changes = 0
        # The soup never changes, so what it fills is worked out once.
        self._ground = columns_of(settings, soup, [], 0, 0, settings.columns - 1, settings.rows - 1)
        self._boxes = {}
        self._last_number = 0
        # The tiles that are not stale, with their plates.
        self._plates = {}

    def put(self, box):
        """Put a box in and return its number."""
        check_boxes([box])
        self._last_number += 1
        self._boxes[self._last_number] = box
        self._changed_by(box)
        return self._last_number

    def take(self, number):
        """Take the box with a number out."""
        if number not in self._boxes:
            raise PlaceError("box")
        self._changed_by(self._boxes.pop(number))

    def _changed_by(self, box):
        """Count a change, and forget the plates of the tiles that a box reaches."""
        self.changes += 1
        for tile in reached_tiles(self.settings, box):
            self._plates.pop(tile, None)

    def box_list(self):
        """Return the list of the boxes that stand in the world, in the order of their numbers."""
        return list(self._boxes.values())

    def stale(self):
        """Return the list of the stale tiles, row by row."""
        return [tile for tile in self.settings.tiles() if tile not in self._plates]

    def tile(self, a, b):
        """Return the list of the plates of a tile, which is built if it is stale."""
        # A tile has cells if its first cell is one of the grid.
        if not self.settings.has_cell(a * self.settings.tile, b * self.settings.tile):
            raise PlaceError("tile")
        if (a, b) not in self._plates:
            self._plates[(a, b)] = tile_plates(self.settings, self._columns_near(a, b), a, b)
            self.built += 1
        return list(self._plates[(a, b)])

    def _columns_near(self, a, b):
        """Return the columns over the cells of a tile and over all cells within reach of them."""
        side, reach = self.settings.tile, self.settings.reach
        i0, k0 = a * side - reach, b * side - reach
        i1, k1 = (a + 1) * side - 1 + reach, (b + 1) * side - 1 + reach
        over = columns_of(self.settings, [], self.box_list(), i0, k0, i1, k1)
        return {cell: merged(self._ground[cell] + over[cell]) for cell in over}

    def mesh(self):
        """Return the pair of the plates and the portals of the world; stale tiles are built."""
        plates = [plate for a, b in self.settings.tiles() for plate in self.tile(a, b)]
        return (plates, joined_portals(self.settings, plates))
