"""Keepers: a loft and the log of the deeds that were done at it, out of which it comes up again."""

from lentloft.deeds import do_deed, read_deed, show_deed
from lentloft.errors import LoftError, NoLog, NoText
from lentloft.kinds import is_room, need
from lentloft.loft import Loft

MOST_TOGETHER = 12


class Keeper:
    """A loft, and the rows of its log."""

    def __init__(self, room):
        self.keeping = Loft(room)
        self.rows = []

    def do(self, deed):
        """Do a deed, and tell what it tells."""
        told = do_deed(self.keeping, deed)
        self.rows.append(show_deed(deed))
        return told

    def do_together(self, deeds):
        """Do all of some deeds or none, and tell what each tells."""
        # Where one of them is refused the loft that is kept knows of none.
        trial = self.keeping.copied()
        told = [do_deed(trial, deed) for deed in deeds]
        self.rows += ["begin"] + [show_deed(deed) for deed in deeds] + ["end"]
        self.keeping = trial
        return told

    def log(self):
        """Tell the log's text."""
        return "".join([row + "\n" for row in self.rows])

    def kept_loft(self):
        """Tell the loft that is kept, for asking alone."""
        return self.keeping

    def loft(self):
        """Tell a copy of the loft that is kept."""
        return self.keeping.copied()


def read_row(at, row):
    """Tell the deed of the row of a log at this place."""
    try:
        return read_deed(row)
    except NoText:
        raise NoLog(at) from None


def read_rows(rows):
    """Tell the deeds of a log's rows, None for begin and end, up to a last begin row without an end row."""
    deeds = []
    begun = None
    for at, row in enumerate(rows):
        if row == "begin" and begun is None:
            begun = at
            deeds.append(None)
        elif row == "end" and begun is not None and at > begun + 1:
            begun = None
            deeds.append(None)
        elif begun is not None and at > begun + MOST_TOGETHER:
            raise NoLog(at)
        else:
            deeds.append(read_row(at, row))
    return deeds if begun is None else deeds[:begun]


def come_up(room, text):
    """Tell a keeper of what the text of a log, cut anywhere, tells."""
    need(is_room(room), isinstance(text, str))
    rows = text.split("\n")[:-1]
    deeds = read_rows(rows)
    keeper = Keeper(room)
    for at, deed in enumerate(deeds):
        if deed is None:
            continue
        # One that is refused refuses the whole log, so those told together need no way back.
        try:
            do_deed(keeper.kept_loft(), deed)
        except LoftError:
            raise NoLog(at) from None
    keeper.rows = rows[:len(deeds)]
    return keeper
