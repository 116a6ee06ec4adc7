"""The examiner: what the disks of a world hold, and whether anything is wrong with it."""

from neverunsaid.arrows import picture
from neverunsaid.books import key_of
from neverunsaid.held import held
from neverunsaid.logs import lines_on


def rows_left(world):
    """The list that has, for each house, the list of the lines that its disk holds."""
    return [lines_on(world.disk(house)) for house in range(world.tree.houses)]


def findings(world):
    """The list of what is wrong in a world; it is empty where only acts have changed it."""
    rows = rows_left(world)
    torn = picture(world.tree, rows)
    if torn is not None:
        return [("torn", torn)]
    books = _books_that_stand(world)
    behind = [("behind", house) for house in books if list(books[house]) != rows[house]]
    sure = held(world.tree, rows)
    return behind + [("beside", house, key) for house in books for key in _missing(books[house], sure[house])]


def _books_that_stand(world):
    """The book of each house that stands, by its number, ascending."""
    houses = [world.house(house) for house in range(world.tree.houses)]
    return {house.number: house.book for house in houses if house is not None and house.stage == "standing"}


def _missing(book, keys):
    """Those of the keys of which a book has no line."""
    found = [key_of(line) for line in book]
    return [key for key in keys if key not in found]
