"""Deeds: what is done at a loft as tuples, and each of them as one text."""

from lentloft.errors import NoText
from lentloft.merging import merge, part
from lentloft.parcels import MOST_ROWS, ROW_FORMS, lay
from lentloft.words import read_thing, read_words, show_file, show_things

FORMS = {
    "make": ("name",),
    "drop": ("name",),
    "resize": ("name", "place"),
    "write": ("name", "place", "contents"),
    "hole": ("name", "place", "place"),
    "lend": ("file", "place", "some", "name", "place"),
    "twin": ("file", "name"),
    "freeze": ("name",),
    "forget": ("name",),
    "back": ("name",),
    "merge": ("most",),
    "part": ("name",),
}


def do_deed(loft, deed):
    """Do a deed at a loft, and tell what that tells."""
    match deed:
        case ("make", name):
            return loft.make(name)
        case ("drop", name):
            return loft.drop(name)
        case ("resize", name, size):
            return loft.resize(name, size)
        case ("write", name, at, contents):
            return loft.write(name, at, contents)
        case ("hole", name, at, many):
            return loft.hole(name, at, many)
        case ("lend", where, name, at, many, target, to):
            return loft.lend(where, name, at, many, target, to)
        case ("twin", where, name, new):
            return loft.twin(where, name, new)
        case ("freeze", label):
            return loft.freeze(label)
        case ("forget", label):
            return loft.forget(label)
        case ("back", label):
            return loft.back(label)
        case ("merge", most):
            return merge(loft, most)
        case ("part", name):
            return part(loft, name)
        case ("lay", base, rows):
            return lay(loft, base, rows)


def show_deed(deed):
    """Tell the text of a deed."""
    word, *things = deed
    if word == "lay":
        base, rows = things
        return " ; ".join([show_things([word, base])] + [show_things(row) for row in rows])
    if word in ("lend", "twin"):
        where, name, *more = things
        return show_things([word, show_file(where, name)] + more)
    return show_things(deed)


def read_lay(words):
    """Tell the deed that lays, out of the words behind its own."""
    rows = []
    for word in words[1:]:
        if word == ";":
            rows.append([])
        elif not rows:
            raise NoText()
        else:
            rows[-1].append(word)
    if not words or [] in rows or len(rows) > MOST_ROWS:
        raise NoText()
    base = read_thing("base", words[0])
    return ("lay", base, [read_words(ROW_FORMS.get(row[0]), row) for row in rows])


def read_deed(text):
    """Tell the deed that a text writes."""
    if not isinstance(text, str):
        raise NoText()
    words = text.split(" ")
    if words[0] == "lay":
        return read_lay(words[1:])
    return read_words(FORMS.get(words[0]), words)
