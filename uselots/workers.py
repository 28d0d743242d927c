"""Asks of plain programs, each worked out once."""

from uselots.errors import Endless, TooMany
from uselots.scenes import Scene
from uselots.tallies import Answer, Tally

RUN = ("run", ())


class Worker:
    """Works out asks of a Plain by a way, at most so many unlike ones.

    `answers` has an Answer for each ask, that of RUN, which is none, for the run's E.
    """

    def __init__(self, plain, words, most):
        self.plain = plain
        self.words = words
        self.most = most
        self.met = 0
        self.answers = {}

    def answer(self, wanted):
        """The Answer of an ask, or of RUN, worked out if it was not yet: Endless, TooMany."""
        if wanted in self.answers:
            return self.answers[wanted]
        opened = {}
        waiting = [(wanted, self._begin(wanted, opened))]
        while waiting:
            newest, scene = waiting[-1]
            further = scene.go_on(self.answers)
            if further is not None:
                waiting.append((further, self._begin(further, opened)))
            else:
                waiting.pop()
                del opened[newest]
                self.answers[newest] = self._answer(newest, scene)
        return self.answers[wanted]

    def _begin(self, wanted, opened):
        """The Scene of one more ask, which is open from now on."""
        name, numbers = wanted
        if wanted in opened:
            raise Endless(wanted)
        if name != "run":
            if self.met == self.most:
                raise TooMany(self.most)
            self.met += 1
        opened[wanted] = True
        return Scene(self.plain, name, numbers)

    def _answer(self, ready, scene):
        name, _ = ready
        tally = Tally(scene, self.words, self.answers)
        funs = self.plain.heads.get(name, [])
        # The outermost fun is no step of a call: what is called is there already.
        cost = tally.cost + max(len(funs) - 1, 0)
        looks = tuple([tally.looks.get(fun.place, 0) for fun in funs])
        return Answer(scene.worths[scene.root.place], cost, looks, scene, tally)
