"""Words: how things are written with one blank between each two, and read again.

A form tells what is written, kind by kind. Of most kinds a thing is one word; a file is told by where it is and its
name, in one word; contents are all words from there on.
"""

from lentloft.errors import NoText
from lentloft.kinds import is_of

FIGURES = "0123456789"
MOST_FIGURES = 13
NUMBERS = ("place", "some", "few", "most")


def number_in(word):
    """Tell the number that a word writes, None where it writes none."""
    # No number that may be written has more figures, and Python can't read too many of them.
    if not 1 <= len(word) <= MOST_FIGURES or not all(sign in FIGURES for sign in word):
        return None
    if word[0] == "0" and len(word) > 1:
        return None
    return int(word)


def thing_in(kind, word):
    """Tell what a word, or the words of contents, would write where that is of this kind."""
    if kind == "contents":
        return [number_in(each) for each in word]
    if kind == "base" and word == "-":
        return None
    return number_in(word) if kind in NUMBERS else word


def read_thing(kind, word):
    """Tell what a word, or the words of contents, writes of a kind."""
    thing = thing_in(kind, word)
    if not is_of(kind, thing):
        raise NoText()
    return thing


def read_file(word):
    """Tell where and under which name a file is that a word writes."""
    if "/" not in word:
        return ["", read_thing("name", word)]
    label, sign, name = word.partition("/")
    return [read_thing("name", label), read_thing("name", name)]


def read_things(form, words):
    """Tell all things that words write in this form."""
    last = len(form) - 1
    told = words[:last] + [words[last:]] if "contents" in form else words
    if len(told) != len(form):
        raise NoText()
    things = []
    for kind, word in zip(form, told):
        things += read_file(word) if kind == "file" else [read_thing(kind, word)]
    return things


def read_words(form, words):
    """Tell the tuple of a first word and of what the words behind it write; without a form there is none."""
    if form is None:
        raise NoText()
    return tuple(words[:1] + read_things(form, words[1:]))


def show_file(where, name):
    """Write where a file is and its name."""
    return name if where == "" else f"{where}/{name}"


def show_things(things):
    """Write things, but files, as words."""
    words = []
    for thing in things:
        if thing is None:
            words.append("-")
        elif isinstance(thing, list):
            words += [str(content) for content in thing]
        else:
            words.append(str(thing))
    return " ".join(words)
