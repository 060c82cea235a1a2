"""Desks: live drawings by commands."""

from handlebends.bends import Bend, value
from handlebends.errors import InvalidCommand
from handlebends.live import Live
from handlebends.marks import least
from handlebends.ratios import read_number, read_value, tell_value

MOST_NUMBER_DIGITS = 2
SIGNS = "-0+"
# For each command but `bend`, what stands behind its first word: N for a number, V for a value.
FORMS = {"pull": "NV", "mark": "V", "unmark": "V", "value": "V", "signs": "", "least": "", "undo": ""}


def _tell_signs(signs):
    """Return the text of signs."""
    return "".join([SIGNS[sign + 1] for sign in signs])


def _say_pull(live, parts):
    """Give a handle another value."""
    return _tell_signs(live.pull(parts[0], parts[1]))


def _say_mark(live, parts):
    """Put an inner mark in."""
    return _tell_signs(live.mark(parts[0]))


def _say_unmark(live, parts):
    """Take an inner mark out, if it is not needed."""
    return "done" if live.unmark(parts[0]) else "needed"


def _say_value(live, parts):
    """Tell the value at a time."""
    return tell_value(value(live.bend, parts[0]))


def _say_signs(live, _):
    """Tell the signs."""
    return _tell_signs(live.signs)


def _say_least(live, _):
    """Tell the least form."""
    return str(least(live.bend))


def _say_undo(live, _):
    """Take back the last deed."""
    return _tell_signs(live.signs) if live.undo() else "nothing"


ANSWERS = {
    "pull": _say_pull,
    "mark": _say_mark,
    "unmark": _say_unmark,
    "value": _say_value,
    "signs": _say_signs,
    "least": _say_least,
    "undo": _say_undo,
}


class Desk:
    """A desk, which keeps a live drawing."""

    def __init__(self):
        self.live = None

    def say(self, command):
        """Do a command and return its answer."""
        words = _words_of(command)
        if words[0] == "bend":
            return self._begin(command, words)
        parts = _read_parts(words)
        if parts is None or self.live is None:
            raise InvalidCommand()
        answer = ANSWERS[words[0]]
        return answer(self.live, parts)

    def _begin(self, command, words):
        """Begin a new live drawing and tell how many handles it has."""
        if len(words) < 2:
            raise InvalidCommand()
        self.live = Live(Bend.read(command))
        return str(len(self.live.bend))


def _words_of(command):
    """Return the words of any value at all that may be a command."""
    if not isinstance(command, str) or "\n" in command:
        raise InvalidCommand()
    words = command.split(" ")
    if "" in words:
        raise InvalidCommand()
    return words


def _read_parts(words):
    """Return what the words behind the first one tell, or None if they are no command of these forms."""
    form = FORMS.get(words[0])
    if form is None or len(form) != len(words) - 1:
        return None
    parts = [_read_part(letter, word) for letter, word in zip(form, words[1:])]
    return None if None in parts else parts


def _read_part(letter, word):
    """Return the number or the value that a word tells, or None if it tells none."""
    if letter == "V":
        return read_value(word)
    return read_number(word) if len(word) <= MOST_NUMBER_DIGITS else None
