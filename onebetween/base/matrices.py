"""Matrices of integers, as lists of rows."""


def determinant(rows):
    """Return the determinant of a square matrix; that of no rows is 1."""
    left = [list(row) for row in rows]
    sign = 1
    # What each step divides by divides all entries, so that they stay integers (Bareiss).
    divisor = 1
    while len(left) > 0:
        at = _first_row_with_pivot(left)
        if at is None:
            return 0
        if at > 0:
            left[0], left[at] = left[at], left[0]
            sign = -sign
        pivot = left[0]
        left = [_reduced(pivot, row, divisor) for row in left[1:]]
        divisor = pivot[0]
    return sign * divisor


def _first_row_with_pivot(rows):
    """Return the index of the first row that does not begin with 0, None if there is none."""
    for at, row in enumerate(rows):
        if row[0] != 0:
            return at
    return None


def _reduced(pivot, row, divisor):
    """Return the row without its first entry, reduced by the pivot row."""
    return [(pivot[0] * entry - row[0] * over) // divisor for entry, over in zip(row[1:], pivot[1:])]
