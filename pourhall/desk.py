"""The desk: bodies kept by names, and rows of text that make them and ask of them."""

from pourhall.air import shut
from pourhall.bodies import common, joined, less, marked, mirrored, moved, pieces, quarter
from pourhall.boxes import boxes
from pourhall.cores import cores, gaps
from pourhall.drawing import first_bump, hindrance
from pourhall.errors import NoCell, NoName
from pourhall.parts import order_of
from pourhall.planes import parts_at, planes
from pourhall.pouring import level
from pourhall.risers import fewest_risers, starved, summits
from pourhall.texts import read, shown
from pourhall.words import bodies_written, cells_written_or, is_name, kinds_of, numbers_written
from pourhall.words import NOTHING, things_of, words_of, written_or

DONE = "ok"


def refuse_others(body, cells):
    """Refuse cells of which one is none of the body's."""
    marks = marked(body)
    if not all([cell in marks for cell in cells]):
        raise NoCell(0)


def refuse_bad_parts(parts):
    """Refuse parts of which one has no cells, or two have a cell in common."""
    cells = []
    for part in parts:
        cells.extend(part[0])
    if not all([part[0] for part in parts]) or len(set(cells)) < len(cells):
        raise NoCell(0)


# Each of the following takes the bodies that are kept and what the words behind the first one say.


def make_body(kept, said):
    """The body of a `body` row."""
    return read(said[1])


def make_join(kept, said):
    """The body of a `join` row."""
    return joined(kept[said[1]], kept[said[2]])


def make_less(kept, said):
    """The body of a `less` row."""
    return less(kept[said[1]], kept[said[2]])


def make_common(kept, said):
    """The body of a `common` row."""
    return common(kept[said[1]], kept[said[2]])


def make_move(kept, said):
    """The body of a `move` row."""
    return moved(kept[said[1]], said[2], said[3], said[4])


def make_quarter(kept, said):
    """The body of a `quarter` row."""
    return quarter(kept[said[1]], said[2])


def make_mirror(kept, said):
    """The body of a `mirror` row."""
    return mirrored(kept[said[1]], said[2])


def make_gaps(kept, said):
    """The body of a `gaps` row."""
    return gaps(kept[said[1]], said[2])


def make_shut(kept, said):
    """The body of a `shut` row."""
    refuse_others(kept[said[1]], said[2:])
    return shut(kept[said[1]], said[2:])


def make_starved(kept, said):
    """The body of a `starved` row."""
    refuse_others(kept[said[1]], said[2:])
    return starved(kept[said[1]], said[2:])


def tell_show(kept, said):
    """The answer of a `show` row."""
    return shown(kept[said[0]])


def tell_pieces(kept, said):
    """The answer of a `pieces` row."""
    return bodies_written(pieces(kept[said[0]]))


def tell_cores(kept, said):
    """The answer of a `cores` row."""
    return bodies_written(cores(kept[said[0]], said[1]))


def tell_summits(kept, said):
    """The answer of a `summits` row."""
    return bodies_written(summits(kept[said[0]]))


def tell_hinder(kept, said):
    """The answer of a `hinder` row."""
    return cells_written_or(hindrance(kept[said[0]], kept[said[1]], said[2]), "free")


def tell_bump(kept, said):
    """The answer of a `bump` row."""
    return written_or(first_bump(kept[said[0]], kept[said[1]], said[2]), "never")


def tell_part(kept, said):
    """The answer of a `part` row."""
    return cells_written_or(parts_at(kept[said[0]], said[1], said[2]), "parts")


def tell_planes(kept, said):
    """The answer of a `planes` row."""
    return numbers_written(planes(kept[said[0]], said[1]))


def tell_boxes(kept, said):
    """The answer of a `boxes` row."""
    found = boxes(kept[said[0]], said[1])
    return "; ".join([f"{a} {b} {kind}" for a, b, kind in found]) if found else NOTHING


def tell_order(kept, said):
    """The answer of an `order` row."""
    names = said[0::2]
    parts = [(kept[name], way) for name, way in zip(names, said[1::2])]
    refuse_bad_parts(parts)
    told = order_of(parts)
    return " ".join([told[0]] + [names[number] for number in told[1]])


def tell_risers(kept, said):
    """The answer of a `risers` row."""
    return cells_written_or(fewest_risers(kept[said[0]]), NOTHING)


def tell_level(kept, said):
    """The answer of a `level` row."""
    refuse_others(kept[said[0]], said[1:])
    return written_or(level(kept[said[0]], said[1], said[2]), "never")


MAKERS = {
    "body": make_body,
    "join": make_join,
    "less": make_less,
    "common": make_common,
    "move": make_move,
    "quarter": make_quarter,
    "mirror": make_mirror,
    "gaps": make_gaps,
    "shut": make_shut,
    "starved": make_starved,
}
TELLERS = {
    "show": tell_show,
    "pieces": tell_pieces,
    "cores": tell_cores,
    "summits": tell_summits,
    "hinder": tell_hinder,
    "bump": tell_bump,
    "part": tell_part,
    "planes": tell_planes,
    "boxes": tell_boxes,
    "order": tell_order,
    "risers": tell_risers,
    "level": tell_level,
}


class Desk:
    """Bodies kept by names, and an answer for each row."""

    def __init__(self):
        self.kept = {}

    def say(self, row):
        """The answer of a row, a text; what is refused changes nothing."""
        words = words_of(row)
        kinds = kinds_of(words)
        said = things_of(kinds, words)
        self.refuse_names(kinds, said)
        return self.answer(words[0], said)

    def refuse_names(self, kinds, said):
        """Refuse a new name that is none, and a name by which nothing is kept."""
        for kind, word in zip(kinds, said):
            if kind == "NEW" and not is_name(word):
                raise NoName("a name has one to eight small letters")
            if kind == "NAME" and word not in self.kept:
                raise NoName("nothing is kept by this name")

    def answer(self, first, said):
        """The answer of a row whose words are all in order, or a refusal of the stages."""
        if first == "drop":
            self.kept.pop(said[0])
            return DONE
        if first in MAKERS:
            make = MAKERS[first]
            # The body is made whole ahead of being kept, so a refusal leaves all as it was.
            self.kept[said[0]] = make(self.kept, said)
            return DONE
        tell = TELLERS[first]
        return tell(self.kept, said)
