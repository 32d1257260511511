"""All rows of numbers below a limit."""


def count_rows(count, many):
    """How many rows of so many numbers below many there are."""
    rows = 1
    for _ in range(count):
        rows *= many
    return rows


def all_rows(count, many):
    """All rows of so many numbers below many, ascending."""
    rows = [()]
    for _ in range(count):
        rows = [(*row, number) for row in rows for number in range(many)]
    return rows
