"""Words: of which kinds the rows of the desk are made, how their words are read, and how answers are written."""

from pourhall.cells import PLACES, WAYS
from pourhall.errors import NoRow
from pourhall.texts import number_of, shown, three_numbers

LETTERS = "abcdefghijklmnopqrstuvwxyz"
LONGEST_NAME = 8
MOST_PARTS = 20
NOTHING = "none"

FORMS = {
    "body": ("NEW", "TEXT"),
    "join": ("NEW", "NAME", "NAME"),
    "less": ("NEW", "NAME", "NAME"),
    "common": ("NEW", "NAME", "NAME"),
    "move": ("NEW", "NAME", "N", "N", "N"),
    "quarter": ("NEW", "NAME", "AXIS"),
    "mirror": ("NEW", "NAME", "AXIS"),
    "gaps": ("NEW", "NAME", "AXIS"),
    "shut": ("NEW", "NAME", "CELL"),
    "starved": ("NEW", "NAME", "CELL"),
    "drop": ("NAME",),
    "show": ("NAME",),
    "pieces": ("NAME",),
    "cores": ("NAME", "AXIS"),
    "summits": ("NAME",),
    "hinder": ("NAME", "NAME", "WAY"),
    "bump": ("NAME", "NAME", "WAY"),
    "part": ("NAME", "AXIS", "N"),
    "planes": ("NAME", "AXIS"),
    "boxes": ("NAME", "AXIS"),
    "order": ("NAME", "WAY"),
    "risers": ("NAME",),
    "level": ("NAME", "CELL", "CELL"),
}
AGAIN = {"shut": ("CELL",), "starved": ("CELL",), "order": ("NAME", "WAY")}


def words_of(row):
    """The words of a row, or NoRow where it is no text."""
    if not isinstance(row, str):
        raise NoRow("only a text is a row")
    if row.startswith("body "):
        # The text of a body has blanks of its own, so all of it is the last word.
        return row.split(" ", 2)
    return row.split(" ")


def kinds_of(words):
    """The kinds of the words that follow the first one, or NoRow where there is no such row of so many words."""
    first = words[0]
    if first not in FORMS:
        raise NoRow("no row begins so")
    kinds = list(FORMS[first])
    while first in AGAIN and len(kinds) < len(words) - 1:
        kinds.extend(AGAIN[first])
    if len(kinds) != len(words) - 1:
        raise NoRow("the row has too few words or too many")
    if kinds.count("WAY") > MOST_PARTS:
        raise NoRow(f"a row has at most {MOST_PARTS} parts")
    return kinds


def thing_of(kind, word):
    """What a word of some kind says, or None where it is none of that kind."""
    if kind == "AXIS":
        return word if word in PLACES else None
    if kind == "WAY":
        return word if word in WAYS else None
    if kind == "N":
        return number_of(word)
    if kind == "CELL":
        return three_numbers(word, ",")
    # Names and texts are looked at later: a bad one has a refusal of its own.
    return word


def things_of(kinds, words):
    """What the words that follow the first one say, or NoRow."""
    things = [thing_of(kind, word) for kind, word in zip(kinds, words[1:])]
    if None in things:
        raise NoRow("a word is none of its kind")
    return things


def is_name(word):
    """Whether a word is a name."""
    return 1 <= len(word) <= LONGEST_NAME and all([sign in LETTERS for sign in word])


def written_or(thing, word):
    """A thing as a text, or a word in the stead of None."""
    return word if thing is None else str(thing)


def cell_written(cell):
    """A cell as a text, perhaps one beyond 60 or -60."""
    return ",".join([str(number) for number in cell])


def cells_written_or(cells, word):
    """Cells with blanks between, or a word in the stead of None or of no cells."""
    return " ".join([cell_written(cell) for cell in cells]) if cells else word


def bodies_written(bodies):
    """The texts of bodies with a bar between."""
    return " | ".join([shown(body) for body in bodies]) if bodies else NOTHING


def numbers_written(numbers):
    """Numbers with blanks between."""
    return " ".join([str(number) for number in numbers]) if numbers else NOTHING
