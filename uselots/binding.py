"""Ways: how what is bound at each binding place is worked out."""

from uselots.kinds import ascends, is_row, is_text, is_tuple
from uselots.texts import is_place

WORDS = ("name", "need", "value")


def is_word(value):
    return is_text(value) and value in WORDS


def is_way(program, value):
    """Whether any value is a WAY of a Program."""
    if is_word(value):
        return True
    if not is_row(value, 2):
        return False
    word, changes = value
    if not is_word(word) or not is_tuple(changes) or not changes:
        return False
    if not all([is_change(program, word, change) for change in changes]):
        return False
    return ascends([place for place, _ in changes])


def is_change(program, word, value):
    """Whether any value tells another word than this one for a binding place of a Program."""
    if not is_row(value, 2):
        return False
    place, its = value
    if not is_place(program, place) or place not in program.bindings:
        return False
    return is_word(its) and its != word


def binding_words(program, way):
    """The word by which each binding place of program binds, by its PLACE."""
    word, changes = (way, ()) if is_text(way) else way
    words = {place: word for place in program.bindings}
    for place, its in changes:
        words[place] = its
    return words


def way_without(way, name):
    """The way without its changes in the line of this name: its word alone, if none is left."""
    if is_text(way):
        return way
    word, changes = way
    left = tuple([change for change in changes if change[0][0] != name])
    return (word, left) if left else word


def changes_in(way, name):
    """Whether a way has changes in the line of this name."""
    return way_without(way, name) != way


def first_word(way):
    """The word by which a way binds where it tells no change."""
    return way if is_text(way) else way[0]
