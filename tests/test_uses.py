"""Point 6: uses."""

import unittest

from helpers import Refusals, any_values, deep
from tables import Lot, content, is_tidy, named, tall
from uselots.errors import BadLooks, BadTable, BadUse, BadUses, Unlike
from uselots.texts import Program
from uselots.uses import heights, held, is_table, parted, tidied, united, uses_text

FIVE, TEN = ("number", 5), ("number", 10)
CALLED = ("function", (((((0, 2),), 1), 1),))
DOUBLE = (FIVE, TEN, CALLED)
NOTHING = (FIVE, ("function", ()), ("pair", (), ()))
KINDS = DOUBLE + (("pair", ((0, 1), (2, 3)), ()), ("function", ((((), 1), 2), ((((3, 1),), 0), 5))))


class Tables(Refusals, unittest.TestCase):
    def test_tables(self):
        lot = ((((), 0), 1), (((), 1), 1), ((((0, 1),), 0), 1), ((((0, 2),), 0), 1))
        for table in ((), DOUBLE, NOTHING, KINDS, (FIVE, FIVE), (("number", -9999), ("number", 9999), ("number", 0)),
                      (FIVE, ("pair", ((0, 1),), ((0, 10 ** 30),))), (FIVE, ("function", ((((), 0), 1),))),
                      (("pair", (), ()), FIVE, ("pair", ((0, 1), (1, 1)), ())), (FIVE, TEN, ("function", lot))):
            self.assertIs(is_table(table), True, table)
        for seed in range(100):
            self.assertIs(is_table(Lot(seed).table(12)), True)

    def test_no_tables(self):
        for value in any_values():
            self.assertIs(is_table(value), value == (), value)

    def test_no_entries(self):
        wrong = [value for value in any_values()] + [
            list(FIVE), ("number",), ("number", 5, 5), ("number", 10000), ("number", -10000), ("number", True),
            ("number", None), ("number", "5"), ("number", (5,)), ("Number", 5), ("numbers", 5), (None, 5),
            (("number",), 5),
            ("function",), ("function", None), ("function", []), ("function", (), ()), ("pair",), ("pair", ()),
            ("pair", (), (), ()), ("pair", (), []), ("pair", [], ()), ("pair", None, ()), ("pair", (), 5), ("",),
            ("function", 5), ("pairs", (), ()), ("functions", ()), Program("run 1"), ("number", Program("run 1"))]
        for value in wrong:
            self.assertIs(is_table((value,)), False, value)
            self.assertIs(is_table((FIVE, value)), False, value)
            self.assert_refused(BadTable, told := (FIVE, value), heights, told)

    def test_no_looks(self):
        wrong = [[(0, 1)], ([0, 1],), ((0, 0),), ((0, -1),), ((0, True),), ((True, 1),), ((False, 1),), ((0, None),),
                 ((None, 1),), ((2, 1),), ((3, 1),), ((-1, 1),), ((1, 1), (0, 1)), ((0, 1), (0, 1)), ((0, 1), (0, 2)),
                 ((0, 1, 1),), ((0,),), (0, 1), (0,), (((0, 1),),), None, 0, "01", ("01",), {0: 1}, ((0, "1"),),
                 ((0, 1), (1, 1), (1, 1)), ((0, 1), None), (("0", 1),), (((0,), 1),)]
        for looks in wrong:
            for entry in (("pair", looks, ()), ("pair", (), looks), ("function", (((looks, 0), 1),))):
                self.assertIs(is_table((FIVE, TEN, entry)), False, entry)
            self.assert_refused(BadLooks, looks, united, (FIVE, TEN), looks)
            self.assert_refused(BadLooks, looks, parted, (FIVE, TEN), 0, looks)

    def test_no_lots(self):
        one, other = (((), 0), 1), (((), 1), 1)
        wrong = [[one], (list(one),), (((), 0),), (((), 0, 1),), ((((), 0), 0),), ((((), 0), -1),), ((((), 0), True),),
                 ((((), 0), None),), ((([], 0), 1),), ((((), 2), 1),), ((((), 3), 1),), ((((), -1), 1),),
                 ((((), True), 1),), ((((), None), 1),), ((((),), 1),), ((((), 0, 0), 1),), (([(), 0], 1),),
                 (other, one), (one, one), (one, (((), 0), 2)), (one, None), one, None, (None,), ((0, 1),),
                 ((None, 1),),
                 ((((), 0), 1, 1),), ((((0, 1), 0), 1),), (((((0, 1),), 0), 1), one), {((), 0): 1}]
        self.assertIs(is_table((FIVE, TEN, ("function", (one, other)))), True)
        for lot in wrong:
            self.assertIs(is_table((FIVE, TEN, ("function", lot))), False, lot)

    def test_its_own_number_and_later_ones(self):
        for number in (1, 2, 3):
            looks = ((number, 1),)
            for entry in (("pair", looks, ()), ("pair", (), looks), ("function", ((((), number), 1),)),
                          ("function", (((looks, 0), 1),))):
                self.assertIs(is_table((FIVE, entry, FIVE, FIVE)), False)
                self.assertIs(is_table((FIVE,) * 4 + (entry,)), True)

    def test_a_list_of_entries_is_no_table(self):
        for value in ([FIVE], {0: FIVE}, FIVE, "number 5", (list(FIVE),), ([FIVE],), None, deep(60), True):
            self.assertIs(is_table(value), False)

    def test_heights(self):
        self.assertEqual(heights(()), ())
        self.assertEqual(heights(NOTHING), (0, 0, 0))
        self.assertEqual(heights(KINDS), (0, 0, 1, 2, 3))
        self.assertEqual(heights((FIVE, ("pair", ((0, 1),), ()), FIVE, ("pair", (), ((0, 1), (1, 1), (2, 1))),
                                  ("function", ((((), 3), 1),)))), (0, 1, 0, 2, 3))
        chain = [FIVE]
        for number in range(3000):
            chain.append(("pair", ((number, 1),), ()))
        self.assertEqual(heights(tuple(chain)), tuple(range(3001)))
        for seed in range(100):
            table = Lot(seed).table(15)
            self.assertEqual(heights(table=table), tall(table))

    def test_held(self):
        self.assertEqual([held(NOTHING, use) for use in range(3)], [True, True, True])
        table = (FIVE, ("function", ((((), 0), 1),)), ("pair", ((0, 1),), ()), ("pair", (), ((0, 1),)), ("number", 0))
        told = [held(table, use) for use in range(5)]
        self.assertEqual([(type(one), one) for one in told], [(bool, one) for one in (True, False, False, False, True)])
        self.assertIs(held(table=table, use=0), True)


class Refused(Refusals, unittest.TestCase):
    def test_bad_table_comes_first(self):
        for table in ([FIVE], (FIVE, FIVE, None), None, True, ((),), ("number", 5)):
            self.assert_refused(BadTable, table, heights, table)
            self.assert_refused(BadTable, table, uses_text, table)
            for told in (0, 7, None, (), (0,), ((0, 1),), [0]):
                self.assert_refused(BadTable, table, tidied, table, told)
                self.assert_refused(BadTable, table, united, table, told)
                self.assert_refused(BadTable, table, held, table, told)
                self.assert_refused(BadTable, table, parted, table, told, None)

    def test_bad_uses(self):
        for uses in ([0], (3,), (-1,), (0, 3), (True,), (None,), ("0",), 0, None, ((0,),), "0", {0: 0}, (0, 1, False)):
            self.assert_refused(BadUses, uses, tidied, DOUBLE, uses)
        self.assert_refused(BadUses, told := (0,), tidied, (), told)

    def test_bad_use(self):
        for use in (3, -1, True, False, None, "0", (0,), [0], 10 ** 8):
            self.assert_refused(BadUse, use, held, DOUBLE, use)
            self.assert_refused(BadUse, use, parted, DOUBLE, use, ((0, 1),))
            self.assert_refused(BadUse, use, parted, DOUBLE, use, None)
        self.assert_refused(BadUse, 0, held, (), 0)

    def test_bad_looks(self):
        for looks in (0, None, (0,), ((3, 1),), ((0, 0),), [(0, 1)], ((1, 1), (0, 1)), ((0, 1), (0, 1)), ((0, True),)):
            self.assert_refused(BadLooks, looks, united, DOUBLE, looks)
            self.assert_refused(BadLooks, looks, parted, DOUBLE, 2, looks)

    def test_unlike_kinds_and_numbers(self):
        table = KINDS
        for looks in ((), ((0, 1), (1, 1)), ((0, 1), (2, 1)), ((0, 1), (3, 1)), ((2, 1), (3, 1)), ((3, 1), (4, 1)),
                      ((0, 2), (1, 2), (2, 1))):
            self.assert_refused(Unlike, looks, united, table, looks)
            for use in range(len(table)):
                self.assert_refused(Unlike, looks, parted, table, use, looks)
        for use, some in ((0, ((1, 1),)), (0, ((2, 1),)), (2, ((0, 1),)), (2, ((3, 1),)), (3, ((2, 1),)),
                          (3, ((0, 5),))):
            self.assert_refused(Unlike, some, parted, table, use, some)

    def test_more_often_than_it_is(self):
        table = (FIVE, ("function", ((((), 0), 2),)), ("function", ((((), 0), 2), ((((0, 1),), 0), 1))),
                 ("pair", ((0, 2),), ()), ("pair", (), ((0, 1),)), ("pair", ((0, 1),), ((0, 1),)), ("function", ()))
        for use, some in ((1, ((1, 2),)), (1, ((2, 1),)), (2, ((2, 2),)), (3, ((3, 2),)), (3, ((4, 1),)),
                          (4, ((3, 1),)), (5, ((3, 1),)), (5, ((5, 2),)), (6, ((1, 1),)), (2, ((1, 1), (2, 1))),
                          (5, ((4, 2),))):
            self.assert_refused(Unlike, some, parted, table, use, some)


class Sums(unittest.TestCase):
    def test_numbers(self):
        table = (TEN, FIVE, FIVE)
        self.assertEqual(united(table, ((1, 1),)), (table, 1))
        self.assertEqual(united(table, ((2, 3),)), (table, 1))
        self.assertEqual(united(table, ((1, 10 ** 9), (2, 1))), (table, 1))
        self.assertEqual(united(table, looks=((0, 7),)), (table, 0))
        self.assertEqual([parted(table, 2, ((1, 9),)), parted(table, 0, ((0, 1),))], [(table, 1), (table, 0)])

    def test_functions(self):
        one, other = ((((0, 2),), 1), 1), (((), 0), 4)
        table = (FIVE, TEN, ("function", (one,)), ("function", (other, one)))
        for looks, told in ((((2, 1),), table[2:3]), (((2, 3),), [("function", ((one[0], 3),))]),
                            (((2, 1), (3, 1)), [("function", (other, (one[0], 2)))]), (((3, 1),), table[3:]),
                            (((2, 2), (3, 10)), [("function", ((other[0], 40), (one[0], 12)))])):
            more, use = united(table, looks)
            self.assertEqual([more[:4], more[use:use + 1]], [table, tuple(told)])
            self.assertEqual(len(more), 4 if told[0] in table else 5)

    def test_pairs(self):
        table = (FIVE, TEN, ("pair", ((0, 1),), ()), ("pair", (), ((1, 2),)), ("pair", ((0, 2), (1, 1)), ((0, 1),)))
        for looks, told in ((((2, 1), (3, 1)), ("pair", ((0, 1),), ((1, 2),))), (((3, 5),), ("pair", (), ((1, 10),))),
                            (((2, 3), (3, 1), (4, 2)), ("pair", ((0, 7), (1, 2)), ((0, 2), (1, 2))))):
            self.assertEqual(united(table, looks), (table + (told,), 5))

    def test_nothing_stays_nothing(self):
        self.assertEqual(united(NOTHING, ((1, 4),)), (NOTHING, 1))
        self.assertEqual(united(NOTHING, ((2, 4),)), (NOTHING, 2))
        self.assertEqual(parted(NOTHING, 1, ((1, 4),)), (NOTHING, 1))
        self.assertEqual(parted(NOTHING, 2, ((2, 4),)), (NOTHING, 2))

    def test_the_first_alike(self):
        table = (FIVE, CALLED[:1] + ((),), ("function", ((((), 0), 2),)), ("function", ((((), 0), 1),)),
                 ("function", ((((), 0), 2),)), ("function", ()))
        self.assertEqual(united(table, ((3, 2),)), (table, 2))
        self.assertEqual(united(table, ((4, 1),)), (table, 2))
        self.assertEqual(united(table, ((1, 1), (3, 1), (5, 9))), (table, 3))
        self.assertEqual(parted(table, 4, ((3, 1),)), (table, 3))
        self.assertEqual(parted(table, 4, ((3, 2),)), (table, 1))
        self.assertEqual(parted(table, 4, ((5, 1),)), (table, 2))

    def test_what_is_left(self):
        table = (FIVE, ("function", ((((), 0), 3), ((((0, 1),), 0), 2))), ("function", ((((), 0), 1),)),
                 ("function", (((((0, 1),), 0), 2),)), ("pair", ((0, 3),), ((1, 1),)), ("pair", ((0, 1),), ()),
                 ("pair", (), ((1, 1),)))
        self.assertEqual(parted(table, 1, ((2, 2), (3, 1)))[0][7:], ())
        self.assertEqual(parted(table, 1, ((2, 2), (3, 1))), (table, 2))
        self.assertEqual(parted(table, 1, ((2, 3),)), (table, 3))
        self.assertEqual(parted(table, 1, ((1, 1),)), (table + (("function", ()),), 7))
        self.assertEqual(parted(table, 4, ((5, 2), (6, 1))), (table, 5))
        self.assertEqual(parted(table, 4, some=((5, 3),)), (table, 6))
        self.assertEqual(parted(table, use=4, some=((5, 1),)), (table + (("pair", ((0, 2),), ((1, 1),)),), 7))

    def test_what_is_left_put_back(self):
        done = 0
        for seed in range(400):
            lot = Lot(seed)
            table = lot.table(10)
            for looks in (lot.looks(10), lot.looks(10), lot.looks(10)):
                try:
                    whole, use = united(table, looks)
                except Unlike:
                    continue
                for some in (looks, looks[:1], looks[1:], ((looks[0][0], 1),)):
                    if not some:
                        continue
                    left, rest = parted(whole, use, some)
                    self.assertEqual(left[:len(table)], table)
                    part, other = united(left, some)
                    both = tuple(sorted(((rest, 1), (other, 1)))) if rest != other else ((rest, 2),)
                    again, same = united(part, both)
                    self.assertEqual(content(again, same, {}), content(whole, use, {}))
                    done += 1
        self.assertGreater(done, 500)

    def test_sums_tell_what_their_looks_tell(self):
        done = 0
        for seed in range(400):
            lot = Lot(seed)
            table, _ = tidied(lot.table(14), tuple(range(14)))
            looks = lot.looks(len(table))
            entries = [table[use] for use, _ in looks]
            fine = entries and len({entry[0] for entry in entries}) == 1 and (
                entries[0][0] != "number" or len(set(entries)) == 1)
            if not fine:
                with self.assertRaises(Unlike):
                    united(table, looks)
                continue
            more, use = united(table, looks)
            self.assertTrue(is_table(more))
            self.assertEqual(more[:len(table)], table)
            self.assertEqual(more.index(more[use]), use)
            for at in range(1, len(entries[0])):
                if entries[0][0] != "number":
                    told = {}
                    for (_, count), entry in zip(looks, entries):
                        for thing, many in entry[at]:
                            told[thing] = told.get(thing, 0) + count * many
                    self.assertEqual(more[use][at], tuple(sorted(told.items())))
                    done += 1
        self.assertGreater(done, 80)


class Tidied(unittest.TestCase):
    def test_nothing(self):
        self.assertEqual(tidied((), ()), ((), ()))
        self.assertEqual(tidied(KINDS, ()), ((), ()))

    def test_what_nobody_needs_goes(self):
        self.assertEqual(tidied(KINDS, (1,)), ((TEN,), (0,)))
        self.assertEqual(tidied(KINDS, (0, 2)), (DOUBLE, (0, 2)))

    def test_several_times(self):
        self.assertEqual(tidied(DOUBLE, (1, 0, 1, 2, 2)), (DOUBLE, (1, 0, 1, 2, 2)))
        self.assertEqual(tidied(table=DOUBLE, uses=(1, 1)), ((TEN,), (0, 0)))

    def test_by_height_and_then_as_python_sorts(self):
        table = (TEN, ("pair", ((0, 1),), ()), FIVE, ("pair", (), ()), ("function", ()), ("number", -3),
                 ("function", ((((), 0), 1),)), ("pair", (), ((1, 1),)))
        told = (("function", ()), ("number", -3), FIVE, TEN, ("pair", (), ()), ("function", ((((), 3), 1),)),
                ("pair", ((3, 1),), ()), ("pair", (), ((6, 1),)))
        self.assertEqual(tidied(table, tuple(range(8))), (told, (3, 6, 2, 4, 0, 1, 5, 7)))

    def test_looks_are_sorted_anew(self):
        table = (TEN, FIVE, ("pair", ((0, 7), (1, 8)), ()), ("function", ((((), 0), 1), (((), 1), 2))))
        self.assertEqual(tidied(table, (2, 3)), ((FIVE, TEN, ("function", ((((), 0), 2), (((), 1), 1))),
                                                  ("pair", ((0, 8), (1, 7)), ())), (3, 2)))

    def test_like_entries_become_one(self):
        self.assertEqual(tidied((FIVE, FIVE, TEN), (0, 1, 2)), ((FIVE, TEN), (0, 0, 1)))

    def test_entries_that_come_to_be_alike(self):
        table = (FIVE, FIVE, ("pair", ((0, 1),), ()), ("pair", ((1, 1),), ()),
                 ("function", (((((0, 1),), 2), 1), ((((1, 1),), 3), 4))), ("pair", ((0, 1), (1, 2)), ((2, 5), (3, 5))))
        self.assertEqual(tidied(table, (2, 3, 4, 5)), (
            (FIVE, ("pair", ((0, 1),), ()), ("function", (((((0, 1),), 1), 5),)), ("pair", ((0, 3),), ((1, 10),))),
            (1, 1, 2, 3)))

    def test_tidy_tables_stay(self):
        for seed in range(100):
            table, _ = tidied(Lot(seed).table(15), tuple(range(15)))
            every = tuple(range(len(table)))
            self.assertEqual(tidied(table, every), (table, every))

    def test_by_lot(self):
        for seed in range(300):
            lot = Lot(seed)
            table = lot.table(15)
            uses = tuple(lot.lot.randrange(15) for _ in range(lot.lot.randint(0, 5)))
            tidy, numbers = tidied(table, uses)
            self.assertTrue(is_table(tidy) and is_tidy(tidy, numbers), (table, uses))
            known, other = {}, {}
            self.assertEqual([content(table, use, known) for use in uses],
                             [content(tidy, use, other) for use in numbers])
            self.assertEqual(len({content(tidy, use, other) for use in range(len(tidy))}), len(tidy))

    def test_the_same_however_it_was_numbered(self):
        for seed in range(200):
            lot = Lot(seed)
            table = lot.table(12)
            uses = tuple(range(12))
            tidy, numbers = tidied(table, uses)
            other, where = self.shuffled(table, lot.lot)
            again, places = tidied(other, tuple(where[use] for use in uses))
            self.assertEqual((again, places), (tidy, numbers))

    def shuffled(self, table, lot):
        """The table with its entries in another sequence, some of them twice, and where they stand in it."""
        where, other, waiting = {}, [], list(range(len(table)))
        while waiting:
            ready = [use for use in waiting if named(table[use]) <= set(where)]
            use = lot.choice(ready)
            for _ in range(lot.randint(1, 2)):
                other.append(self.moved(table[use], where))
                where[use] = len(other) - 1
            waiting.remove(use)
        return tuple(other), where

    def moved(self, entry, where):
        if entry[0] == "number":
            return entry
        if entry[0] == "pair":
            return ("pair",) + tuple(self.moved_looks(looks, where) for looks in entry[1:])
        rows = [((self.moved_looks(looks, where), where[its]), count) for (looks, its), count in entry[1]]
        return ("function", tuple(sorted(rows)))

    def moved_looks(self, looks, where):
        return tuple(sorted((where[use], count) for use, count in looks))

    def test_long_chains(self):
        chain = [FIVE]
        for number in range(2000):
            chain += [("pair", ((2 * number, 1),), ())] * 2
        tidy, numbers = tidied(tuple(chain), (4000, 3999))
        self.assertEqual([len(tidy), numbers, tidy[-1]], [2001, (2000, 2000), ("pair", ((1999, 1),), ())])


if __name__ == "__main__":
    unittest.main()
