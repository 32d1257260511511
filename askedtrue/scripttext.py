"""The texts of packets and of scripts."""

from askedtrue.errors import BadText
from askedtrue.orders import is_name, is_whole
from askedtrue.rows import FIGURES, rows_of
from askedtrue.scripts import rank

MOST_FIGURES = 300
# No number of 300 figures has more bits; one of far more could not be written at all.
MOST_BITS = 997
DEEPEST = 12


def packet_text(packet):
    """The text of a packet: a number, a name, None, or a tuple of such."""
    text = text_of(packet, DEEPEST)
    if text is None:
        raise BadText(0)
    return text


def text_of(thing, deepest):
    """The text of a thing that is nested no deeper, or None if it has none."""
    if thing is None:
        return "-"
    if is_name(thing):
        return thing
    if is_whole(thing):
        return number_text(thing)
    if not isinstance(thing, tuple) or deepest == 0:
        return None
    texts = [text_of(part, deepest - 1) for part in thing]
    if None in texts:
        return None
    return "(" + " ".join(texts) + ")"


def number_text(number):
    """The figures of a number, or None if they are too many."""
    if number.bit_length() > MOST_BITS or len(str(abs(number))) > MOST_FIGURES:
        return None
    return str(number)


def parse_packet(text):
    """The thing that has this text."""
    if not isinstance(text, str):
        raise BadText(0)
    things = read_things(text)
    # What was read too leniently, as other spaces or leading zeros, has another text.
    if things is None or len(things) != 1 or text_of(things[0], DEEPEST) != text:
        raise BadText(0)
    return things[0]


def read_things(text):
    """The things whose texts stand in the text one behind another, or None if it is not made of such."""
    rows = [[]]
    for word in text.replace("(", " ( ").replace(")", " ) ").split(" "):
        if word == "(" and len(rows) <= DEEPEST:
            rows.append([])
        elif word == ")" and len(rows) > 1:
            things = tuple(rows.pop())
            rows[-1].append(things)
        elif word == "-":
            rows[-1].append(None)
        elif is_name(word):
            rows[-1].append(word)
        elif is_number(word):
            rows[-1].append(int(word))
        elif word != "":
            # Also a bracket that is one too many, or too deep.
            return None
    return rows[0] if len(rows) == 1 else None


def is_number(word):
    """Whether the word has the form of a number, perhaps with leading zeros."""
    figures = word[1:] if word[:1] == "-" else word
    return are_figures(figures)


def are_figures(word):
    """Whether the word is made of figures, one at least and not too many."""
    return 1 <= len(word) <= MOST_FIGURES and all([sign in FIGURES for sign in word])


def script_text(script):
    """The text of a script: one row for each bad packet."""
    rows = []
    for at, bad in enumerate(script):
        words = [bad[0], str(bad[1]), str(bad[2])]
        if bad[0] == "corrupted":
            words.append(text_of(bad[3], DEEPEST))
        if None in words:
            raise BadText(at)
        rows.append(" ".join(words))
    return "\n".join(rows)


def parse_script(text):
    """The script that has this text."""
    if text == "":
        return ()
    script = []
    for number, row in enumerate(rows_of(text)):
        bad = read_bad(row)
        if bad is None or script and rank(script[-1]) >= rank(bad):
            raise BadText(number)
        script.append(bad)
    return tuple(script)


def read_bad(row):
    """The bad packet that a row tells, or None if it tells none."""
    words = row.split(" ", 3)
    if len(words) < 3 or not is_plain(words[1]) or not is_plain(words[2]):
        return None
    way, beat = int(words[1]), int(words[2])
    if words[0] == "lost" and len(words) == 3:
        return ("lost", way, beat)
    if words[0] != "corrupted" or len(words) == 3:
        return None
    packet = read_packet(words[3])
    if packet is None:
        return None
    return ("corrupted", way, beat, packet)


def is_plain(word):
    """Whether the word is a number of 0 or more as texts write it."""
    return are_figures(word) and (word == "0" or word[0] != "0")


def read_packet(text):
    """The thing that has this text, or None if there is none or it is None itself."""
    try:
        return parse_packet(text)
    except BadText:
        return None
