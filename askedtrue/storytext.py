"""The texts of stories."""

from askedtrue.errors import BadText
from askedtrue.plantext import parse_plan, plan_text
from askedtrue.rows import rows_of
from askedtrue.scripts import is_bad_packet
from askedtrue.scripttext import DEEPEST, is_plain, number_text, read_bad, read_packet, script_text, text_of
from askedtrue.stories import Story, is_deed

# Deeds whose text has rows of its own.
BLOCKS = ("order", "net")


def story_text(story):
    """The text of a story: its plan, then its deeds."""
    rows = block_rows("desk", plan_text(story.plan))
    for at, deed in enumerate(story.deeds):
        more = deed_rows(deed)
        if more is None:
            raise BadText(at)
        rows.extend(more)
    return "\n".join(rows)


def block_rows(word, text):
    """The rows of a text behind one that tells how many they are."""
    rows = text.split("\n")
    return [f"{word} {len(rows)}", *rows]


def deed_rows(deed):
    """The rows of a deed, or None if it has none."""
    if not is_deed(deed) or deed[0] == "back":
        return None
    if deed[0] in BLOCKS:
        return block_rows(deed[0], deed[1]) if isinstance(deed[1], str) else None
    if deed[0] == "bad":
        row = bad_row(deed[1])
    else:
        row = things_row(deed[0], tuple(deed[1:]))
    return None if row is None else [row]


def bad_row(packet):
    """The row of the deed of a bad packet, or None if it has none."""
    if not is_bad_packet(packet) or number_text(packet[1]) is None or number_text(packet[2]) is None:
        return None
    try:
        return "bad " + script_text((packet,))
    except BadText:
        return None


def things_row(word, things):
    """The row of a deed with these things, or None if they have no text."""
    text = text_of(things, DEEPEST)
    if text is None:
        return None
    if not things:
        return word
    # Without the brackets around all things.
    return ("go" if word == "go on" else word) + " " + text[1:-1]


def parse_story(text):
    """The story that has this text."""
    rows = rows_of(text)
    many = block_size(rows, 0, "desk")
    if many == 0:
        raise BadText(0)
    plan = read_plan(rows[1:1 + many])
    deeds = []
    number = 1 + many
    while number < len(rows):
        deed = read_deed(rows, number)
        if deed is None:
            raise BadText(number)
        deeds.append(deed)
        number += len(deed[1].split("\n")) + 1 if deed[0] in BLOCKS else 1
    return Story(plan, tuple(deeds))


def read_plan(rows):
    """The plan of these rows, which stand behind the first one of the text."""
    try:
        return parse_plan("\n".join(rows))
    except BadText as wrong:
        raise BadText(1 + wrong.row)


def block_size(rows, number, word):
    """How many rows the row of this number tells to follow with this word, 0 if it tells none that do."""
    ahead, _, figures = rows[number].partition(" ")
    if ahead != word or not is_plain(figures) or int(figures) >= len(rows) - number:
        return 0
    return int(figures)


def read_deed(rows, number):
    """The deed that the row of this number tells, with those behind it that are its text; None if it tells none."""
    row = rows[number]
    word, _, told = row.partition(" ")
    if word in BLOCKS:
        many = block_size(rows, number, word)
        return (word, "\n".join(rows[number + 1:number + 1 + many])) if many else None
    if word == "bad":
        packet = read_bad(told)
        return None if packet is None else (word, packet)
    if row == "again":
        return (row,)
    word = "go on" if word == "go" else word
    things = read_packet("(" + told + ")")
    if things is None or len(things) == 0 or not is_deed((word, *things)):
        return None
    return (word, *things)
