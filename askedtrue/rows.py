"""What the texts of orders, nets and plans have in common: rows of words."""

from askedtrue.errors import BadText

FIGURES = "0123456789"


def rows_of(text):
    """The rows of a text; only a line feed parts two of them."""
    if not isinstance(text, str):
        raise BadText(0)
    return text.split("\n")


def words_of(row):
    """The words of a row: two blanks side by side have an empty word between them."""
    return row.split(" ")


def read_figure(word):
    """The number that a word of one figure tells, or None for any other word.

    No number of these texts is above 9, so a longer word is wrong whatever it tells.
    """
    if len(word) != 1 or word not in FIGURES:
        return None
    return int(word)
