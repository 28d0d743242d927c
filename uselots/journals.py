"""Journals: what was done at a bench, as a text, and a bench at which it is done again."""

from uselots.benches import Bench
from uselots.errors import BadJournal, BadProgram, BadWay, UseError
from uselots.kinds import is_text
from uselots.tasks import deed_in, do_deed, way_in, way_text


def journal(bench):
    """The text of all that was done at a bench and stands."""
    text, way, lines = bench.history()
    return "\n".join([text, f"way {way_text(way)}", "deeds"] + lines)


def read_journal(text):
    """The Bench on which this was done: BadJournal with the number of the line at which it is none."""
    if not is_text(text):
        raise BadJournal(0)
    lines = text.split("\n")
    if "deeds" not in lines:
        raise BadJournal(len(lines) + 1)
    start = lines.index("deeds")
    bench = beginning(lines[:start])
    for number, line in enumerate(lines[start + 1:], start=start + 2):
        deed = deed_in(line)
        if deed is None:
            raise BadJournal(number)
        try:
            do_deed(bench, deed)
        except UseError:
            raise BadJournal(number) from None
    return bench


def beginning(lines):
    """The Bench that the lines ahead of the deeds tell: those of the program, then that of the way."""
    many = len(lines)
    if many < 2:
        raise BadJournal(many + 1)
    text = "\n".join(lines[:-1])
    word, blank, told = lines[-1].partition(" ")
    arguments = way_in(told) if word == "way" and blank else None
    try:
        # What is wrong with the program comes ahead of what is wrong with the way.
        return Bench(text, None if arguments is None else arguments[0])
    except BadProgram as error:
        raise BadJournal(error.value) from None
    except BadWay:
        raise BadJournal(many) from None
