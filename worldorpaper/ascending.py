"""Lists that are kept in ascending order."""


def place_in(rows, row, is_less):
    """The index at which a row goes into an ascending list, behind all rows that are not greater."""
    low = 0
    high = len(rows)
    while low < high:
        middle = (low + high) // 2
        if is_less(row, rows[middle]):
            high = middle
        else:
            low = middle + 1
    return low
