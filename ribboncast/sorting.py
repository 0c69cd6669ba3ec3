"""What was cast goes back: the pieces of a galley, counted for each cell."""

from ribboncast.cases import place_of


def sort_back(case, galley):
    """A tuple (column, row, many) for each cell that pieces come to, sorted, or NoName."""
    counts = {}
    for line in galley:
        for name, width in line:
            place = place_of(case, name)
            counts[place] = counts.get(place, 0) + 1
    return sorted([(column, row, many) for (column, row), many in counts.items()])
