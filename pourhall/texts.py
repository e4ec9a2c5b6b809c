"""Bodies as texts: written, and read again."""

from pourhall.bodies import body_of, marked, span
from pourhall.errors import NoCell, NoText, TooMany

NO_CELLS = "none"
FULL = "#"
BARE = "."
FIGURES = "0123456789"
MOST_FIGURES = 3


def layer_shown(marks, wide, deep, z):
    """The rows of one layer, from the greatest y to the least."""
    rows = []
    for y in range(deep[1], deep[0] - 1, -1):
        signs = [FULL if (x, y, z) in marks else BARE for x in range(wide[0], wide[1] + 1)]
        rows.append("".join(signs))
    return "/".join(rows)


def shown(body):
    """The text of a body."""
    if not body:
        return NO_CELLS
    marks = marked(body)
    wide = span(body, "x")
    deep = span(body, "y")
    high = span(body, "z")
    x = wide[0]
    y = deep[0]
    z = high[0]
    layers = "; ".join([layer_shown(marks, wide, deep, height) for height in range(z, high[1] + 1)])
    return f"{x} {y} {z}: {layers}"


def number_of(word):
    """The whole number that a word of at most three figures writes, or None."""
    figures = word[1:] if word.startswith("-") else word
    # Asked ahead of int, which takes other forms too and fails on very long words.
    if len(figures) < 1 or len(figures) > MOST_FIGURES:
        return None
    if not all([sign in FIGURES for sign in figures]):
        return None
    if figures[0] == "0" and word != "0":
        return None
    return int(word)


def three_numbers(text, sign):
    """The three numbers that a text writes with a sign between, as a tuple, or None."""
    numbers = [number_of(word) for word in text.split(sign)]
    if len(numbers) != 3 or None in numbers:
        return None
    return tuple(numbers)


def corner_of(head):
    """The three least numbers that stand ahead of the layers, or NoText."""
    corner = three_numbers(head, " ")
    if corner is None:
        raise NoText("three numbers stand ahead of the layers")
    return corner


def cells_drawn(corner, layers):
    """The full cells of layers that are drawn from a corner on."""
    cells = []
    for up, layer in enumerate(layers.split("; ")):
        for north, row in enumerate(reversed(layer.split("/"))):
            for east, sign in enumerate(row):
                if sign == FULL:
                    cells.append((corner[0] + east, corner[1] + north, corner[2] + up))
    return cells


def body_drawn(text):
    """The body that a text would be of if it is one at all, or NoText."""
    if text == NO_CELLS:
        return []
    parts = text.partition(": ")
    cells = cells_drawn(corner_of(parts[0]), parts[2])
    try:
        return body_of(cells)
    except (NoCell, TooMany):
        raise NoText("what is drawn is no body") from None


def read(text):
    """The body whose text is handed in; anything else, of any kind, is refused with NoText."""
    if not isinstance(text, str):
        raise NoText("only a text is read")
    body = body_drawn(text)
    # A body has one text: what isn't just this one has a fault somewhere, whichever it be.
    if shown(body) != text:
        raise NoText("this is not how a body is written")
    return body
