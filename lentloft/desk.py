"""The desk: rows of text are told to it, and answered with text."""

from lentloft.deeds import read_deed
from lentloft.errors import NoRow, NoText
from lentloft.kinds import MOST_ROOM
from lentloft.logs import MOST_TOGETHER, Keeper
from lentloft.owing import is_rule, owes
from lentloft.parcels import parcel
from lentloft.words import read_words, show_file, show_things

QUESTIONS = {
    "read": ("file", "place", "few"),
    "size": ("file",),
    "pieces": ("file",),
    "names": (),
    "labels": (),
    "kept": (),
    "owes": ("name",),
    "parcel": ("base", "name"),
    "log": (),
}


def read_said(text):
    """Tell the deed, or what is asked, of a row; none that lays."""
    words = text.split(" ")
    try:
        said = read_words(QUESTIONS[words[0]], words) if words[0] in QUESTIONS else read_deed(text)
    except NoText:
        raise NoRow() from None
    if said[0] == "lay" or said[0] == "owes" and not is_rule(said[1]):
        raise NoRow()
    return said


def or_none(text):
    """Tell a text, or that there is nothing to tell."""
    return text if text else "none"


def show_rows(rows):
    """Write tuples with a comma between each two."""
    return or_none(", ".join([show_things(row) for row in rows]))


def show_owed(loft, rule):
    """Write what each owner owes by a rule."""
    return show_rows([
        (show_file(where, name), f"{amount[0]}/{amount[1]}") for where, name, amount in owes(loft, rule)
    ])


def answer(keeper, question):
    """Tell what is asked of a keeper."""
    loft = keeper.kept_loft()
    match question:
        case ("read", where, name, at, many):
            return or_none(show_things(loft.read(where, name, at, many)))
        case ("size", where, name):
            return str(loft.size(where, name))
        case ("pieces", where, name):
            return show_rows(loft.pieces(where, name))
        case ("names",):
            return or_none(" ".join(loft.names("")))
        case ("labels",):
            return or_none(" ".join(loft.labels()))
        case ("kept",):
            return str(len(loft.kept()))
        case ("owes", rule):
            return show_owed(loft, rule)
        case ("parcel", base, label):
            return show_rows(parcel(loft, base, label))
        case ("log",):
            return keeper.log()


class Desk:
    """A keeper, and the deeds that are gathered behind a begin row, None where none are."""

    def __init__(self):
        self.keeper = Keeper(MOST_ROOM)
        self.gathered = None

    def say(self, text):
        """Take a row, and answer it."""
        if not isinstance(text, str):
            raise NoRow()
        if self.gathered is not None:
            return self.gather(text)
        if text == "begin":
            self.gathered = []
            return ".."
        said = read_said(text)
        if said[0] in QUESTIONS:
            return answer(self.keeper, said)
        told = self.keeper.do(said)
        return "ok" if told is None else str(told)

    def gather(self, text):
        """Take a row behind a begin row, and answer it."""
        if text == "end" and self.gathered:
            return self.do_gathered()
        said = read_said(text)
        if said[0] in QUESTIONS or len(self.gathered) == MOST_TOGETHER:
            raise NoRow()
        self.gathered.append(said)
        return ".."

    def do_gathered(self):
        """Do what was gathered together; whether it is done or refused, nothing is gathered any more."""
        deeds = self.gathered
        self.gathered = None
        self.keeper.do_together(deeds)
        return "ok"
