"""How a bench stands behind each deed, and blocks, behind which it stands as ahead of them."""

from uselots.runs import Run


class Stand:
    """How a bench stands behind a deed.

    Stands of several deeds may have one Run: `done` tells at how many steps this one has it.
    All else in a stand is never changed: other stands have it, too. `beside` has the run's
    pieces, by their expressions; `seen` are the watched PLACES.
    """

    def __init__(self, run, way, library):
        self.run = run
        self.done = 0
        self.its_way = way
        self.library = library
        self.beside = {}
        self.seen = ()
        self.amid = False

    def twin(self):
        """The same once more, for the next deed to alter."""
        other = Stand(self.run, self.its_way, self.library)
        other.done = self.done
        other.beside = self.beside
        other.seen = self.seen
        other.amid = self.amid
        return other

    def begin(self, program, way):
        """A run begins."""
        self.run = Run(program, way)
        self.done = 0
        self.its_way = way
        self.amid = False

    def forget(self, name):
        """The PLACES of this line are watched no more."""
        self.seen = tuple([place for place in self.seen if place[0] != name])


class Deed:
    """A deed that was done: its line in journals, how the bench stands behind it, the deed ahead of it.

    The first one of a bench, without one ahead, is its beginning, and no deed.
    """

    def __init__(self, written, stand, ahead):
        self.written = written
        self.stand = stand
        self.ahead = ahead
        self.many = 0 if ahead is None else ahead.many + 1


class Undone:
    """A deed that was taken back, and those that were taken back ahead of it."""

    def __init__(self, deed, others):
        self.deed = deed
        self.others = others


class Block:
    """A block at a bench: behind it the bench is as it was ahead of it, unless it is kept.

    `kept` is None until keep is called in it: an exit asks an attribute by None alone.
    """

    def __init__(self, host):
        self.host = host
        self.kept = None
        self.latest = None
        self.undone = None
        self.outer = None

    def __enter__(self):
        host = self.host
        self.latest = host.latest
        self.undone = host.undone
        self.outer = host.innermost
        host.innermost = self
        return host

    def __exit__(self, kind, value, trace):
        host = self.host
        if kind is not None or self.kept is None:
            host.latest = self.latest
            host.undone = self.undone
        host.innermost = self.outer
