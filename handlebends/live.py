"""Live drawings: a bend that is drawn further, deed by deed, each of which can be taken back."""

from handlebends.bends import Bend
from handlebends.errors import Refused
from handlebends.marks import with_mark, without_mark
from handlebends.ratios import is_sequence, is_value, is_whole
from handlebends.zeros import sign_row


class Live:
    """A drawing that changes."""

    def __init__(self, bend):
        # The bends of all times with their signs, the one of now last; a tuple, so that `within` can keep it as it is.
        self._states = ((bend, sign_row(bend)),)

    @property
    def bend(self):
        """The bend as it is now."""
        return self._states[-1][0]

    @property
    def signs(self):
        """The signs of the bend as it is now."""
        return self._states[-1][1]

    def __len__(self):
        return len(self._states[1:])

    def pull(self, at, height):
        """Give a handle another value."""
        if not _is_pull(self.bend, at, height):
            raise Refused(len(self.bend))
        return self._draw(_pulled(self.bend, [(at, height)]))

    def several(self, pulls):
        """Give several handles other values, or none of them."""
        if not is_sequence(pulls):
            raise Refused(0)
        for index, thing in enumerate(pulls):
            if not isinstance(thing, tuple) or len(thing) != 2 or not _is_pull(self.bend, thing[0], thing[1]):
                raise Refused(index)
        return self._draw(_pulled(self.bend, pulls))

    def mark(self, time):
        """Put an inner mark in."""
        return self._draw(with_mark(self.bend, time))

    def unmark(self, time):
        """Take an inner mark out if the curve stays the same, and tell whether it does."""
        found = without_mark(self.bend, time)
        if found is None:
            return False
        self._draw(found)
        return True

    def _draw(self, bend):
        """Do a deed: go on with another bend. Return its signs."""
        self._states = self._states + ((bend, sign_row(bend)),)
        return self.signs

    def undo(self):
        """Take back the last deed, and tell whether there was one."""
        if len(self) == 0:
            return False
        self._states = self._states[:-1]
        return True

    def within(self, work):
        """Return what work on this drawing returns, and leave the drawing as it was ahead."""
        states = self._states
        try:
            return work(self)
        finally:
            self._states = states


def _is_pull(bend, at, height):
    """Tell whether any values at all are the number of a handle and a value."""
    return is_whole(at) and 0 <= at < len(bend) and is_value(height)


def _pulled(bend, pulls):
    """Return a bend with other values for some handles, one behind the other."""
    handles = list(bend.handles)
    for at, height in pulls:
        handles[at] = height
    return Bend(bend.degree, bend.marks, handles)
