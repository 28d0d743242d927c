"""The whole program: all of it tells of the same steps; point 3, each of (a) to (j), over drawn programs."""

import importlib
import random
import unittest
from unittest import mock

from helpers import refused
from plains import PLAINS, plain_sample
from programs import PROGRAMS, programs_and_ways
from renaming import Renamed
from samples import WORDS, sample, sample_ways, without
from slow import Hand, do, line_of, told_of
from uselots.alike import alike, never_dearer, table
from uselots.asking import arity, asked, is_plain
from uselots.benches import Bench
from uselots.books import Book, least, needs, size, times, whole
from uselots.charges import begun, by_line, by_place, callers, dearest_path, longest
from uselots.desk import Desk
from uselots.errors import Endless, TooMany
from uselots.exchanges import compared, exchanged, exchanged_run, outer_calls, predicted, predicted_run
from uselots.journals import journal, read_journal
from uselots.moments import called, free_anew, free_early, left, looked, needed, over, still
from uselots.papers import is_paper, ordered, paper, paper_end
from uselots.pieces import is_piece, pieces, requests
from uselots.runs import ended
from uselots.texts import parts_text
from uselots.ways import alike_ways, cheapest, counts, dearest, least_times, three

MOST = 250


def ending(many):
    for program, way in programs_and_ways(many):
        run = ended(program, way, MOST)
        if run.end is not None and run.end[0] != "stuck":
            yield program, way, run


class TheSameSteps(unittest.TestCase):
    def test_all_tell_of_the_same_steps(self):
        for program, way, run in ending(50):
            with self.subTest(text=program.text, way=way):
                self.papers(program, way, run)
                self.moments(program, way, run)
                self.pieces_and_books(program, way, run)
                self.exchanges(program, way, run)
                self.charges(program, way, run)
                self.bench(program, way, run)
                if is_plain(program):
                    told = refused(asked, program, way, 2000)
                    if told is None:
                        self.assertEqual(asked(program, way, 2000).steps, len(run))

    def papers(self, program, way, run):
        table_, rows = paper(program, way, MOST)
        self.assertEqual([row[0] for row in rows], list(run.places))
        self.assertEqual([row[2] for row in rows], list(run.unders))
        self.assertTrue(is_paper(program, way, (table_, rows)))
        self.assertEqual(paper_end(program, way, (table_, rows)), (run.end, len(run)))
        self.assertEqual(ordered(program, way, (table_, rows)), (table_, rows))

    def moments(self, program, way, run):
        for number in {0, 1, len(run) // 2, len(run) - 1, len(run)}:
            if 0 <= number <= len(run):
                rest = {place: run.places[number:].count(place) for place in set(run.places[number:])}
                self.assertEqual(left(program, way, MOST, number)[0], len(run) - number)
                self.assertEqual(dict(left(program, way, MOST, number)[1]), rest)
                things = [thing[:2] for thing in looked(program, way, MOST) if thing[0] < number]
                self.assertEqual(sorted(over(program, way, MOST, number) + tuple(row[:2] for row in still(program, way, MOST, number))),
                                 sorted(things))
        self.assertEqual(counts(program, way, MOST), left(program, way, MOST, 0)[1])
        self.assertEqual(least_times(program, way, MOST)[0], "least")
        self.assertEqual(alike_ways(program, way, way, MOST), ("alike",))

    def pieces_and_books(self, program, way, run):
        own, *others = pieces(program, way, MOST)
        if way != without(way, "run"):
            return
        book = Book(parts_text(program), way)
        self.assertEqual(book.learn(program, MOST), len(others))
        self.assertEqual(whole(book, program.line("run")[4:], own)[1], len(run))
        for name in program.parts:
            for call, count, its in outer_calls(program, way, MOST, name):
                self.assertEqual(size(book, name, call), its)
                self.assertEqual(predicted(program, way, MOST, name, book), ("steps", len(run)))

    def exchanges(self, program, way, run):
        for name in program.parts:
            line = program.line(name)
            told = compared(program, way, MOST, name, line)
            self.assertEqual(told[:3], ("same", len(run), len(run)))
            inside = sum(count * its for _, count, its in outer_calls(program, way, MOST, name))
            self.assertLessEqual(inside, len(run))
            middle = len(run) // 2
            if way in WORDS and middle:
                amid = exchanged_run(ended(program, way, middle), name, line)
                amid.go(MOST)
                self.assertEqual([len(amid), amid.unders, amid.begins], [len(run), run.unders, run.begins])
                self.assertEqual(tuple((place[0].rstrip("'"), place[1]) for place in amid.places), run.places)
                book = Book(parts_text(program), way)
                book.learn(program, MOST)
                self.assertEqual(predicted_run(program, way, MOST, middle, name, book), ("steps", len(run)))

    def charges(self, program, way, run):
        sizes = begun(program, way, MOST)
        self.assertEqual([len(sizes), sizes[0]], [len(run), len(run)])
        self.assertEqual([row[:2] for row in by_place(program, way, MOST)], list(counts(program, way, MOST)))
        self.assertEqual(run.begins[0], -1)
        self.assertTrue(all(0 <= began < step for step, began in enumerate(run.begins) if step))
        bodies = {(name, 4): run.places.count((name, 4)) for name in program.parts}
        for name in program.parts:
            self.assertEqual(sum(count for its, _, count in callers(program, way, MOST) if its == name), bodies[(name, 4)])

    def bench(self, program, way, run):
        bench = Bench(program.text, way)
        self.assertEqual(bench.go(MOST), len(run))
        self.assertEqual([bench.run_now(), bench.known()], [run, len(run)])
        self.assertEqual(bench.learn(), len(pieces(program, way, MOST)) - 1)
        self.assertEqual(bench.book_now().pieces, pieces(program, way, MOST)[1:])
        bench.back(len(run))
        if way == without(way, "run"):
            self.assertEqual(bench.known(), len(run))
        desk = Desk(journal(bench))
        self.assertTrue(desk.bench == bench)
        self.assertEqual([desk.say("go 100000"), desk.say("steps")], [str(len(run)), str(len(run))])
        self.assertEqual(desk.bench.run_now(), run)


class Names(unittest.TestCase):
    """(i): the same is told with the other names; what stands in sequence by the other sequence."""

    def drawn(self, many):
        for seed, program in enumerate(PROGRAMS + [sample(seed) for seed in range(many)]):
            other = Renamed(program, seed)
            for way in sample_ways(program, seed):
                if refused(paper, program, way, MOST) is None:
                    yield program, way, other, other.program, other.way(way)

    def test_runs_and_papers(self):
        for program, way, other, its, its_way in self.drawn(60):
            run, twin = ended(program, way, MOST), ended(its, its_way, MOST)
            self.assertEqual(twin.places, tuple(other.place(place) for place in run.places))
            self.assertEqual([twin.unders, twin.begins, twin.end], [run.unders, run.begins, other.state(run.end)])
            run.back(1 + len(run) // 3)
            twin.back(1 + len(twin) // 3)
            self.assertEqual(twin.sight(), tuple((other.name(name), other.state(state)) for name, state in run.sight()))
            self.assertEqual([twin.pile(), twin.next], [run.pile(), other.place(run.next)])
            table_, rows = paper(program, way, MOST)
            self.assertEqual(paper(its, its_way, MOST), (table_, tuple((other.place(row[0]), *row[1:]) for row in rows)))

    def test_moments_and_ways(self):
        for program, way, other, its, its_way in self.drawn(40):
            self.assertEqual(looked(its, its_way, MOST), looked(program, way, MOST))
            self.assertEqual(called(its, its_way, MOST), called(program, way, MOST))
            number = len(ended(program, way, MOST)) // 2
            for look in (still, over):
                self.assertEqual(look(its, its_way, MOST, number), look(program, way, MOST, number))
            for look in (counts, needed):
                told = [(other.place(row[0]), *row[1:]) for row in look(program, way, MOST)]
                self.assertEqual(list(look(its, its_way, MOST)), self.in_sequence(its, told))
            if refused(paper, program, "need", MOST) is None:
                for look in (free_early, free_anew):
                    told = [(other.place(place),) for place in look(program, MOST)]
                    self.assertEqual([(place,) for place in look(its, MOST)], self.in_sequence(its, told))
                some = tuple(sorted(program.bindings))[:2]
                self.assertEqual(cheapest(its, tuple(sorted(other.place(place) for place in some)), MOST)[1],
                                 cheapest(program, some, MOST)[1])
                self.assertEqual(dearest(its, tuple(sorted(other.place(place) for place in some)), MOST)[1:],
                                 dearest(program, some, MOST)[1:])
            told = [(other.state(end), steps) if end != "going" else (end, steps) for end, steps in three(program, MOST)]
            self.assertEqual(list(three(its, MOST)), told)

    def in_sequence(self, program, rows):
        """Rows that begin with a PLACE, in the program's sequence; those of one PLACE as they stood."""
        return sorted(rows, key=lambda row: program.places.index(row[0]))

    def test_pieces_and_books(self):
        for program, way, other, its, its_way in self.drawn(40):
            told, twins = pieces(program, way, MOST), pieces(its, its_way, MOST)
            self.assertEqual(twins[0], other.piece(told[0]))
            self.assertEqual(set(twins), set(other.piece(piece) for piece in told))
            self.assertEqual([piece[0] for piece in twins[1:]],
                             sorted([piece[0] for piece in twins[1:]], key=its.parts.index))
            if way != without(way, "run"):
                continue
            book, twin = Book(parts_text(program), way), Book(parts_text(its), its_way)
            book.learn(program, MOST)
            twin.learn(its, MOST)
            for piece in told[1:]:
                name, call = other.call(piece[:2])
                self.assertTrue(is_piece(its, its_way, other.piece(piece)))
                self.assertEqual(set((other.call(asked_for), many) for asked_for, many in requests(program, way, piece)),
                                 set(requests(its, its_way, other.piece(piece))))
                self.assertEqual(size(twin, name, call), size(book, *piece[:2]))
                self.assertEqual(dict(times(twin, name, call)), {other.place(place): many for place, many in times(book, *piece[:2])})
                self.assertEqual(set(needs(twin, name, call)),
                                 set((other.call(asked_for), many) for asked_for, many in needs(book, *piece[:2])))
                self.assertEqual(len(least(twin, name, call)), len(least(book, *piece[:2])))
            self.assertEqual(whole(twin, its.line("run")[4:], twins[0]), whole(book, program.line("run")[4:], told[0]))

    @mock.patch.object(importlib.import_module("uselots.alike"), "MOST_ASKS", 80)
    def test_asking_and_parts_alike(self):
        many = 0
        for seed, program in enumerate(PLAINS + [plain_sample(seed) for seed in range(80)]):
            other = Renamed(program, seed)
            self.assertTrue(is_plain(other.program))
            for way in sample_ways(program, seed):
                try:
                    told = asked(program, way, 60)
                except Endless as error:
                    self.assertEqual(refused(asked, other.program, other.way(way), 60), (Endless, other.call(error.value)))
                    continue
                except TooMany:
                    self.assertEqual(refused(asked, other.program, other.way(way), 60), (TooMany, 60))
                    continue
                twin = asked(other.program, other.way(way), 60)
                self.assertEqual([twin.end, twin.steps], [told.end, told.steps])
                self.assertEqual(set(twin.asks), set(other.call(row) for row in told.asks))
                if way == "value":
                    for number in range(0, min(told.steps, 60), 3):
                        place, opened = told.at(number)
                        self.assertEqual(twin.at(number), (other.place(place), tuple(other.call(one) for one in opened)))
                if told.steps < 1000:
                    self.assertEqual(twin.run_piece(), other.piece(told.run_piece()))
                    self.assertEqual(set(twin.book().pieces), set(other.piece(piece) for piece in told.book().pieces))
                many += self.alike(program, other, without(way, "run"))
        self.assertGreater(many, 20)

    def alike(self, program, other, way):
        many = 0
        for name in program.parts[:2]:
            for another in program.parts[1:3]:
                if arity(program, name) == arity(program, another) < 3:
                    for look in (alike, never_dearer):
                        told = refused(look, program, name, another, (0, 1), way)
                        arguments = (other.program, other.name(name), other.name(another), (0, 1), other.way(way))
                        if told is None:
                            self.assertEqual(look(*arguments), look(program, name, another, (0, 1), way))
                            self.assertEqual(table(other.program, other.name(name), (0, 1), other.way(way)),
                                             table(program, name, (0, 1), way))
                            many += 1
                        else:
                            self.assertEqual(refused(look, *arguments)[0], told[0])
        return many

    def test_exchanges_and_charges(self):
        for program, way, other, its, its_way in self.drawn(40):
            self.assertEqual([begun(its, its_way, MOST), dearest_path(its, its_way, MOST), longest(its, its_way, MOST)],
                             [begun(program, way, MOST), dearest_path(program, way, MOST), longest(program, way, MOST)])
            self.assertEqual(list(by_place(its, its_way, MOST)),
                             self.in_sequence(its, [(other.place(row[0]), *row[1:]) for row in by_place(program, way, MOST)]))
            self.assertEqual(set(by_line(its, its_way, MOST)), set(other.call(row) for row in by_line(program, way, MOST)))
            self.assertEqual(set(callers(its, its_way, MOST)),
                             set((other.name(name), other.place(place), many) for name, place, many in callers(program, way, MOST)))
            for name in program.parts:
                self.assertEqual(outer_calls(its, its_way, MOST, other.name(name)), outer_calls(program, way, MOST, name))
                words = program.line(name).split(" ")
                line = " ".join(words[:4] + ["pick", "0"] + words[4:] + ["7"])
                if way not in WORDS or refused(exchanged, program, name, line):
                    continue
                told = compared(program, way, MOST, name, line)
                if told[0] == "ends not" and told[1][0] == "stuck":
                    told = (told[0], other.state(told[1]))
                self.assertEqual(compared(its, its_way, MOST, other.name(name), other.text(line)), told)
                number = len(ended(program, way, MOST)) // 2
                if number:
                    run = exchanged_run(ended(program, way, number), name, line)
                    twin = exchanged_run(ended(its, its_way, number), other.name(name), other.text(line))
                    run.go(MOST)
                    twin.go(MOST)
                    self.assertEqual([twin.places, twin.begins], [tuple(other.place(place) for place in run.places), run.begins])

    def test_benches(self):
        """The same deeds with the other names."""
        for seed in range(30):
            program = sample(seed)
            other = Renamed(program, seed)
            bench, twin = Bench(program.text, "need"), Bench(other.program.text, "need")
            hand = Hand(seed, program)
            for _ in range(10):
                deed = hand.deed(bench)
                if deed[0] in ("line", "expression"):
                    # Names that came later have no others.
                    words = [word for told in deed[1:] for word in told.split(" ")]
                    if any(word in "xyzuvqfgh" and word not in other.names for word in words if word):
                        continue
                if len(do(bench, deed)) == 1:
                    word, *told = deed
                    told = [self.told(other, word, one) for one in told]
                    self.assertEqual(len(do(twin, (word, *told))), 1, line_of(deed))
                self.assertEqual([len(twin), twin.known(), twin.deeds, len(twin.book_now())],
                                 [len(bench), bench.known(), bench.deeds, len(bench.book_now())])
                self.assertEqual(twin.run_now().places, tuple(other.place(place) for place in bench.run_now().places))
                self.assertEqual(dict(twin.signs()), {other.place(place): many for place, many in bench.signs()})

    def told(self, other, word, one):
        if word in ("line", "expression"):
            return other.text(one)
        if word == "bind":
            return other.way(one)
        return other.place(one) if word in ("watch", "unwatch") else one


class Live(unittest.TestCase):
    def test_trials_leave_nothing(self):
        """(j): what is undone, and trials that are not kept; a journal is read back."""
        for seed in range(40):
            program = sample(seed)
            lot = random.Random(seed)
            bench = Bench(program.text, lot.choice(WORDS))
            hand = Hand(seed, program)
            for _ in range(6):
                do(bench, hand.deed(bench))
            before, lines = told_of(bench), journal(bench)

            def look(held):
                for _ in range(5):
                    do(held, hand.deed(held))
                    if lot.random() < 0.3:
                        do(held, ("undo",))
                return told_of(held)

            told = bench.tried(look)
            self.assertEqual(len(told), len(before))
            self.assertEqual([told_of(bench), journal(bench)], [before, lines])
            for _ in range(3):
                many = bench.deeds
                look(bench)
                while bench.deeds > many:
                    bench.undo()
            self.assertTrue(read_journal(journal(bench)) == bench)
            self.assertEqual(told_of(read_journal(journal(bench))), told_of(bench))


if __name__ == "__main__":
    unittest.main()
