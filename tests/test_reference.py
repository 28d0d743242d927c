"""Points 3 and 5: runs of programs made by lot, beside another machine, at each moment, forth and back."""

import random
import unittest

from reference import Reference
from samples import sample, sample_ways
from uselots.runs import Run, ended
from uselots.texts import Program

MOST = 150


def all_of(run):
    """All that a run tells."""
    return (run.program, run.way, run.end, run.next, run.places, run.unders, run.begins, len(run), run.sight(),
            run.pile())


class BesideTheReference(unittest.TestCase):
    def test_at_each_moment(self):
        kinds = set()
        for seed in range(600):
            program = sample(seed)
            for way in sample_ways(program, seed):
                with self.subTest(text=program.text, way=way):
                    kinds.add(self.compare(program, way))
        self.assertEqual(kinds, {"number", "function", "pair", "stuck", None})

    def compare(self, program, way):
        told = Reference(program.text, way, MOST)
        run = Run(program, way)
        for number, (place, sight, pile) in enumerate(told.moments):
            self.assertEqual((run.next, run.sight(), run.pile(), run.end, len(run)), (place, sight, pile, None, number))
            if number < MOST:
                self.assertEqual(run.step(), place)
        self.assertEqual(run.end, told.end)
        if told.end is not None:
            self.assertEqual((run.next, run.sight(), run.pile()), (None, (), ()))
        self.assertEqual((run.unders, run.begins), (tuple(told.unders), tuple(told.begins)))
        self.assertEqual(run.places, tuple(place for place, _, _ in told.moments[:len(run)]))
        return told.end and told.end[0]

    def test_back_and_on_again(self):
        for seed in range(200):
            program = sample(seed)
            lot = random.Random(seed)
            for way in sample_ways(program, seed):
                run = Run(program, way)
                for _ in range(6):
                    run.go(lot.randint(1, 40))
                    run.back(lot.randint(1, len(run)))
                    self.assertEqual(all_of(run), all_of(self.at(program, way, len(run))))
                run.go(MOST)
                whole = ended(program, way, len(run))
                self.assertEqual(all_of(run), all_of(whole))

    def test_copies_go_on_by_themselves(self):
        for seed in range(200):
            program = sample(seed)
            for way in sample_ways(program, seed):
                run = Run(program, way)
                run.go(7)
                told = all_of(run)
                twin = run.copy()
                self.assertEqual(all_of(twin), told)
                twin.go(20)
                far = all_of(twin)
                self.assertEqual(all_of(run), told)
                run.go(20)
                self.assertEqual(all_of(run), far)
                run.back(len(run))
                self.assertEqual(all_of(twin), far)
                twin = twin.copy()
                twin.back(len(twin) - seed % len(twin))
                self.assertEqual(all_of(twin), all_of(self.at(program, way, len(twin))))

    def at(self, program, way, many):
        return ended(program, way, many) if many else Run(program, way)


class Guarantees(unittest.TestCase):
    def test_each_step_is_begun_by_one_ahead(self):
        for seed in range(300):
            program = sample(seed)
            for way in sample_ways(program, seed):
                run = ended(program, way, MOST)
                self.assertEqual((run.begins[0], run.unders[0]), (-1, -1))
                for number in range(1, len(run)):
                    self.assertIn(run.begins[number], range(number))
                    self.assertIn(run.unders[number], range(number))

    def test_places_under_steps_are_those_of_the_text(self):
        for seed in range(300):
            program = sample(seed)
            for way in sample_ways(program, seed):
                run = ended(program, way, MOST)
                for place, under in list(zip(run.places, run.unders))[1:]:
                    above = run.places[under]
                    if program.word(above) in program.parts and program.bound(above) is None:
                        above = (program.word(above), 2)
                    self.assertEqual(program.around(place), above)

    def test_names_do_not_matter(self):
        names = {"f": "part2", "g": "a", "h": "g", "x": "y", "y": "x", "z": "h", "u": "zz", "v": "f"}
        for seed in range(200):
            program = sample(seed)
            lines = [" ".join(names.get(word, word) for word in line.split(" ")) for line in program.text.split("\n")]
            other = Program("\n".join(list(reversed(lines[:-1])) + lines[-1:]))

            def renamed(place):
                return place and (names.get(place[0], place[0]), place[1])

            def told(state):
                return state if state[0] == "number" else (state[0], renamed(state[1]))

            for way in sample_ways(program, seed):
                if not isinstance(way, str):
                    changes = tuple(sorted((renamed(place), word) for place, word in way[1]))
                    run, twin = Run(program, way), Run(other, (way[0], changes))
                else:
                    run, twin = Run(program, way), Run(other, way)
                for _ in range(60):
                    self.assertEqual(twin.next, renamed(run.next))
                    self.assertEqual(twin.pile(), run.pile())
                    self.assertEqual(twin.sight(), tuple((names[name], told(state)) for name, state in run.sight()))
                    self.assertEqual((twin.go(1), twin.end), (run.go(1), run.end and told(run.end)))
                self.assertEqual((twin.unders, twin.begins), (run.unders, run.begins))

    def test_need_is_least(self):
        for seed in range(300):
            program = sample(seed)
            need = ended(program, "need", 400)
            for way in sample_ways(program, seed):
                run = ended(program, way, 400)
                if run.end is None or run.end[0] == "stuck":
                    continue
                self.assertEqual(run.end, need.end)
                for place in program.places:
                    self.assertLessEqual(need.places.count(place), run.places.count(place))


if __name__ == "__main__":
    unittest.main()
