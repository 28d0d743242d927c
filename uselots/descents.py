"""Going down from a piece, through what it requests, in a book."""

from uselots.errors import Lacks, Ring
from uselots.pieces import requested


class Descent:
    """All pieces down from one of them, by numbers in the sequence in which they are met, its own 0: Ring, Lacks.

    Of each there are its piece (`found`), what it requests (`orders`), and the same by
    numbers (`leads`); `left` has all numbers, each behind all that it leads to.
    """

    def __init__(self, book, program, piece):
        self.library = book
        self.base = program
        self.found = []
        self.orders = []
        self.leads = []
        self.left = []
        # By name, then by CALL: a name and a CALL in one would nest too deep for a key.
        self.numbers = {}
        self._descend(piece)

    def _descend(self, piece):
        waiting = [self._enter(piece)]
        closed = {}
        while waiting:
            number = waiting[-1]
            met = len(self.leads[number])
            if met == len(self.orders[number]):
                closed[number] = True
                self.left.append(waiting.pop())
                continue
            (name, call), times = self.orders[number][met]
            other = self.numbers.get(name, {}).get(call)
            if other is None:
                piece = self.library.kept_piece(name, call)
                if piece is None:
                    raise Lacks((name, call))
                other = self._enter(piece)
                waiting.append(other)
            elif other not in closed:
                raise Ring((name, call))
            self.leads[number].append((other, times))

    def _enter(self, piece):
        number = len(self.found)
        self.found.append(piece)
        self.orders.append(requested(self.base, piece))
        self.leads.append([])
        calls = self.numbers.setdefault(piece[0], {})
        calls[piece[1]] = number
        return number

    def totals(self):
        """How often each piece is wanted in all, for its own once."""
        many = [0] * len(self.found)
        many[0] = 1
        for number in reversed(self.left):
            for other, times in self.leads[number]:
                many[other] = many[other] + many[number] * times
        return many

    def many_rows(self):
        """How many rows all of them have, each as often as it is wanted."""
        return sum([times * len(piece[3]) for piece, times in zip(self.found, self.totals())])
