"""The kinds of things that are handed in, and the refusal of what isn't of its kind."""

from lentloft.errors import Wrong

TOP_CONTENT = 10 ** 9
TOP_PLACE = 10 ** 12
LONGEST_NAME = 8
LETTERS = "abcdefghijklmnopqrstuvwxyz"


def is_whole(thing):
    """Tell whether a thing is a whole number."""
    # Python counts True and False as ints too; here they are no numbers.
    return isinstance(thing, int) and not isinstance(thing, bool)


def is_content(thing):
    """Tell whether a thing is a content."""
    return is_whole(thing) and 0 <= thing <= TOP_CONTENT


def is_place(thing):
    """Tell whether a thing is a place; a size and a count are of the same kind."""
    return is_whole(thing) and 0 <= thing <= TOP_PLACE


def is_name(thing):
    """Tell whether a thing is a name; a label is of the same kind."""
    if not isinstance(thing, str) or not 1 <= len(thing) <= LONGEST_NAME:
        return False
    return all(letter in LETTERS for letter in thing)


def need(*rights):
    """Refuse the first argument that isn't right, told for each argument in order whether it is."""
    for at, right in enumerate(rights):
        if not right:
            raise Wrong(at)
