"""The pool, in which contents are kept as grains."""

from lentloft.errors import NoGrain, NoRoom
from lentloft.kinds import is_content, is_grain, is_room, need


class Pool:
    """Room for so many grains; each one that is kept has a content and is held so many times."""

    def __init__(self, room):
        need(is_room(room))
        self.room = room
        self.contents = {}
        self.times = {}

    def lay(self, content):
        """Keep a grain that has this content, held once, and tell it."""
        need(is_content(content))
        if self.left() == 0:
            raise NoRoom()
        grain = 0
        while grain in self.contents:
            grain += 1
        self.contents[grain] = content
        self.times[grain] = 1
        return grain

    def hold(self, grain):
        """Hold a grain once more."""
        self.need_kept(grain)
        self.times[grain] += 1

    def let_go(self, grain):
        """Hold a grain once less, and tell whether it is let free by this."""
        self.need_kept(grain)
        self.times[grain] -= 1
        if self.times[grain] > 0:
            return False
        del self.contents[grain], self.times[grain]
        return True

    def content_of(self, grain):
        """Tell the content of a grain."""
        self.need_kept(grain)
        return self.contents[grain]

    def holds(self, grain):
        """Tell how often a grain is held."""
        self.need_kept(grain)
        return self.times[grain]

    def kept(self):
        """Tell the kept grains, rising."""
        return sorted(self.contents)

    def left(self):
        """Tell for how many more grains there is room."""
        return self.room - len(self.contents)

    def copied(self):
        """Tell a new pool that keeps the same grains, under the same numbers and held as often."""
        new = Pool(self.room)
        new.contents = dict(self.contents)
        new.times = dict(self.times)
        return new

    def need_kept(self, grain):
        """Refuse what is no grain, then a grain that isn't kept."""
        need(is_grain(grain))
        if grain not in self.contents:
            raise NoGrain(grain)
