"""The kinds of things that are handed in, and the refusal of what isn't of its kind."""

from lentloft.errors import Wrong

TOP_CONTENT = 10 ** 9
TOP_PLACE = 10 ** 12
LONGEST_NAME = 8
MOST_ROOM = 120
MOST_HELD = 60
MOST_CONTENTS = 24
LETTERS = "abcdefghijklmnopqrstuvwxyz"


def is_whole(thing):
    """Tell whether a thing is a whole number."""
    # Python counts True and False as ints too; here they are no numbers.
    return isinstance(thing, int) and not isinstance(thing, bool)


def is_within(thing, least, most):
    """Tell whether a thing is a whole number from least to most."""
    return is_whole(thing) and least <= thing <= most


def is_content(thing):
    """Tell whether a thing is a content."""
    return is_within(thing, 0, TOP_CONTENT)


def are_contents(thing):
    """Tell whether a thing is a list of contents that can be written at once."""
    if not isinstance(thing, list) or not 1 <= len(thing) <= MOST_CONTENTS:
        return False
    return all(is_content(content) for content in thing)


def is_place(thing):
    """Tell whether a thing is a place; a size and a count are of the same kind."""
    return is_within(thing, 0, TOP_PLACE)


def is_some(thing):
    """Tell whether a thing is a count of one place at least."""
    return is_within(thing, 1, TOP_PLACE)


def is_few(thing):
    """Tell whether a thing is a number of places that can be read at once."""
    return is_within(thing, 0, MOST_HELD)


def is_most(thing):
    """Tell whether a thing is a number of mergings that can be asked for."""
    return is_within(thing, 0, MOST_ROOM)


def is_grain(thing):
    """Tell whether a thing is a grain, kept or not."""
    return is_whole(thing) and thing >= 0


def is_room(thing):
    """Tell whether a thing is a number of grains for which there may be room."""
    return is_within(thing, 1, MOST_ROOM)


def is_name(thing):
    """Tell whether a thing is a name; a label is of the same kind."""
    if not isinstance(thing, str) or not 1 <= len(thing) <= LONGEST_NAME:
        return False
    return all(letter in LETTERS for letter in thing)


def is_where(thing):
    """Tell whether a thing says where a file is looked for: "" for the living ones, else a label."""
    return is_name(thing) or isinstance(thing, str) and len(thing) == 0


def is_base(thing):
    """Tell whether a thing is what a parcel may be told of: a label, or None for a state without files."""
    return thing is None or is_name(thing)


KINDS = {
    "name": is_name, "base": is_base, "place": is_place, "some": is_some, "few": is_few, "most": is_most,
    "contents": are_contents,
}


def is_of(kind, thing):
    """Tell whether a thing is of the kind of this name."""
    right = KINDS[kind]
    return right(thing)


def need(*rights):
    """Refuse the first argument that isn't right, told for each argument in order whether it is."""
    for at, right in enumerate(rights):
        if not right:
            raise Wrong(at)
