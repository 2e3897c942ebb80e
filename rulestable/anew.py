"""A row that changes: it is read anew behind a change, no farther than to where all is as it was."""

from rulestable.errors import NoPlace
from rulestable.reader import Reading, is_over, look_on, pile_at
from rulestable.words import MOST_READ, is_whole, need_row


def need_place(thing, last):
    """Refuse what is no whole number from 0 to the last one."""
    if not is_whole(thing) or not 0 <= thing <= last:
        raise NoPlace(thing)


class Anew(Reading):
    """A reading that is kept: its row may be changed."""

    def __init__(self, table, row):
        Reading.__init__(self, table, row)
        self.span = (0, len(self.looks))

    def signs(self):
        """Tell the row as it is."""
        return list(self.row)

    def looked(self):
        """Tell which places were looked at behind the last change: the first one, and the one behind the last one."""
        return self.span

    def change(self, place, out, put):
        """Take so many signs out of the row at a place, and put others in there."""
        need_place(place, len(self.row))
        need_place(out, len(self.row) - place)
        need_row(put, MOST_READ - len(self.row) + out)
        self.row = self.row[:place] + put + self.row[place + out:]
        self.span = (place, place)
        # With no look at the place a sign ahead of it was refused, and the same one still is.
        if place < len(self.looks):
            self.look_anew(place, place + len(put), out - len(put))

    def look_anew(self, place, behind, gone):
        """Look from a place on; what stands from behind on now stood so many places farther on ahead of the change."""
        old = self.looks
        looks = old[:place]
        while not is_over(self.row, looks):
            there = len(looks)
            if there >= behind and pile_at(old, there + gone) == pile_at(looks, there):
                break
            look_on(self.table, self.row, looks)
        self.span = (place, len(looks))
        if not is_over(self.row, looks):
            # The same states lie there and the same signs come, so all that was done from there on is done again.
            looks.extend(old[len(looks) + gone:])
        self.looks = looks
        self.tree = self.grown_tree()
