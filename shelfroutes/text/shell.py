"""Shells: engines that are told what to do by lines of text, and answer by texts."""

from shelfroutes.base.names import MAX_DIGITS, is_name
from shelfroutes.check.local import certificate_of
from shelfroutes.errors import InvalidOperation, InvalidRow, NothingToUndo, TooMany, UnknownKey, UnknownName
from shelfroutes.run.engine import Engine
from shelfroutes.text.texts import read_scheme

# What follows the first word of each command: names and integers; behind "add" there are any number of integers.
_ARGUMENTS = {"add": ("name",), "check": (), "evict": ("name", "integer"), "held": ("name",),
              "load": ("name", "integer"), "output": (), "redo": (), "remove": ("integer",), "rows": (),
              "switch": ("name",), "undo": ()}
_DIGITS = "0123456789"


class Shell:
    """A shell over an engine of the scheme with a text."""

    def __init__(self, text):
        self._driven = Engine(read_scheme(text))

    def engine(self):
        """A twin of the engine."""
        return self._driven.twin()

    def __call__(self, line):
        return self.run(line)

    def run(self, line):
        """Do the command of a line, and return a text."""
        command = _command_of(line)
        if command is None:
            return "what"
        try:
            return self._answer(command)
        except UnknownName as unknown:
            return f"unknown {unknown.name}"
        except UnknownKey as missing:
            return f"none {missing.key}"
        except InvalidRow:
            return "row"
        except InvalidOperation:
            return "operation"
        except NothingToUndo as refused:
            return f"undo {refused.many}"
        except TooMany as crowded:
            return f"many {crowded.limit}"

    def _answer(self, command):
        word = command[0]
        if word == "check":
            return _text_of(_lines_of_check(self._driven.scheme))
        if word == "output":
            return _text_of([_told(result) for result in self._driven.output.results()])
        if word == "rows":
            rows = self._driven.world.rows
            return _text_of([f"{key} {rows[key][0]} {_told(rows[key][1])}" for key in rows])
        if word == "held":
            return _text_of([f"{_told(match)} x {many}" for match, many in self._driven.held(command[1]).pairs()])
        return self._do(command)

    def _do(self, command):
        """Do a command that can change the output; the text tells what it changes."""
        before = self._driven.output
        lines = []
        word = command[0]
        if word == "add":
            key = self._driven.add(command[1], command[2:])
            lines.append(f"row {key}")
        elif word == "undo":
            self._driven.undo()
        elif word == "redo":
            self._driven.redo()
        else:
            self._driven(command)
        for result, many in (self._driven.output - before).pairs():
            sign = "+" if many > 0 else "-"
            lines.append(f"{sign} {_told(result)}")
        return _text_of(lines)


def _command_of(line):
    """The words of a command, integers among them, or None if the value is no command."""
    if not isinstance(line, str):
        return None
    words = line.split(" ")
    kinds = _ARGUMENTS.get(words[0])
    if kinds is None:
        return None
    if words[0] == "add":
        kinds = kinds + ("integer",) * (len(words) - 2)
    if len(words) - 1 != len(kinds):
        return None
    told = [_integer_of(word) if kind == "integer" else _name_of(word) for kind, word in zip(kinds, words[1:])]
    return None if None in told else (words[0], *told)


def _name_of(word):
    return word if is_name(word) else None


def _integer_of(word):
    """The integer that is written so, or None."""
    digits = word[1:] if word.startswith("-") else word
    if not 1 <= len(digits) <= MAX_DIGITS or not all([digit in _DIGITS for digit in digits]):
        return None
    number = int(word)
    return number if str(number) == word else None


def _lines_of_check(scheme):
    """What a check of a scheme tells: that it is right, or the events of a counterexample."""
    certificate = certificate_of(scheme)
    if certificate[0] != "counterexample":
        return ["right"]
    return ["wrong"] + [_line_of(event) for event in certificate[1]]


def _line_of(event):
    """The line of the command that does an event."""
    if event[0] == "add":
        return f"add {event[1]} {_told(event[2])}"
    return _told(event)


def _told(parts):
    return " ".join(["gap" if part is None else str(part) for part in parts])


def _text_of(lines):
    return "nothing" if lines == [] else "\n".join(lines)
