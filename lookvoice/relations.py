"""Relations between the places of a book."""

from lookvoice.errors import BadPlace, SizeMismatch


def ascending(places):
    """The tuple of the places in ascending order, each of them once."""
    once = {place: True for place in places}
    return tuple(sorted([int(place) for place in once]))


def require_places(places, size):
    """Raises BadPlace for the first place that is not one of the places 0 to size - 1."""
    for place in places:
        if not 0 <= place < size:
            raise BadPlace(place)


def require_same_size(first, second):
    """Raises SizeMismatch if the two relations have different sizes."""
    if first.size != second.size:
        raise SizeMismatch("the relations have different sizes")


def reached(rows, places):
    """The places in the rows of these places, in ascending order."""
    return ascending([end for place in places for end in rows[place]])


def shared(first, second):
    """The places of the first row that the second row has, too."""
    known = {place: True for place in second}
    return [place for place in first if place in known]


class Relation:
    """A relation between the places 0 to size - 1: a row of places for each place."""

    def __init__(self, rows):
        for row in rows:
            require_places(row, len(rows))
        self.size = len(rows)
        self.rows = tuple([ascending(row) for row in rows])

    def reach(self, places):
        """The ascending tuple of all places to which the relation leads from some of these places."""
        require_places(places, self.size)
        return reached(self.rows, places)

    def __or__(self, other):
        require_same_size(self, other)
        return Relation([mine + theirs for mine, theirs in zip(self.rows, other.rows)])

    def __and__(self, other):
        require_same_size(self, other)
        return Relation([shared(mine, theirs) for mine, theirs in zip(self.rows, other.rows)])

    def __mul__(self, other):
        require_same_size(self, other)
        return Relation([reached(other.rows, row) for row in self.rows])

    def __contains__(self, couple):
        place, end = couple
        return 0 <= place < self.size and end in self.rows[place]


def identity(size):
    """The relation that leads from each place to itself only."""
    return Relation([[place] for place in range(size)])
