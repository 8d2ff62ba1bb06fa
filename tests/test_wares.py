import copy
import itertools
import random
import unittest
from fractions import Fraction
from math import comb

from fewspeak.errors import NoLot, NoTable, SpeakError
from fewspeak.fractions import below
from fewspeak.wares import Looks
from walks import NO_WHOLE_NUMBERS, pair

NO_LISTS = (None, True, False, 0, 1, 24, 1.5, "", "abc", (), ((0, 1),), {}, {0: (0, 1)}, {1}, object(), list, range(2))
NO_ROWS = NO_WHOLE_NUMBERS + (0, 1, "ab", [0, 1], (0,), (0, 1, 2), (0, 0), (1, 0), (5, 3), (-2, 0), (-2, -1), (-1, -1), (25, 26),
                              (24, 26), (0, 26), (24, 24), (0, None), (None, 1), (True, 5), (0, True), (False, 1), ("0", 1),
                              (0, "1"), (0.0, 1), (0, 1.0), ((0, 1),))


def judged_by_hand(rows, wares):
    """Promise 101, told once more."""
    for many in range(1, len(wares) + 1):
        let, turn = rows[many - 1]
        if sum(wares[:many]) <= let:
            return ("by", many)
        if sum(wares[:many]) >= turn:
            return ("down", many)
    return ("open", len(wares))


def all_lots(lot, bad):
    """The wares of a lot by each set of places for the bad ones."""
    for places in itertools.combinations(range(lot), bad):
        yield [1 if place in places else 0 for place in range(lot)]


def endings_by_all(rows, lot, bad):
    found = {}
    for wares in all_lots(lot, bad):
        word, looked = judged_by_hand(rows, wares)
        ending = (looked, sum(wares[:looked]), word)
        found[ending] = found.get(ending, 0) + 1
    return [ending + (found[ending],) for ending in sorted(found)]


def drawn_table(chance, many):
    """A table of so many rows; where one looks on is wider or narrower, or nowhere."""
    rows = []
    for number in range(many):
        let = chance.choice((-1, 24, chance.randint(-1, 24), chance.randint(-1, min(24, number + 1)), -1, 0))
        rows.append((let, chance.choice((25, let + 1, chance.randint(let + 1, 25), chance.randint(let + 1, min(let + 4, 25))))))
    let = chance.choice((-1, 24, chance.randint(-1, many)))
    return rows[:-1] + [(let, let + 1)]


def drawn_tables(chance, many, cases):
    for case in range(cases):
        yield drawn_table(chance, chance.randint(1, many))


class WaresTest(unittest.TestCase):
    def assertNoTable(self, row, thing):
        before = repr(thing)
        with self.assertRaises(SpeakError) as caught:
            Looks(thing)
        self.assertIs(type(caught.exception), NoTable)
        self.assertEqual(caught.exception.row, row)
        self.assertEqual(repr(thing), before)

    def assertNoLot(self, ask, *things):
        with self.assertRaises(SpeakError) as caught:
            ask(*things)
        self.assertIs(type(caught.exception), NoLot)


class TableTest(WaresTest):
    """Promises 2, 6 and 100."""

    def test_tables_of_1_and_24_rows(self):
        for let in range(-1, 25):
            self.assertIsInstance(Looks([(let, let + 1)]), Looks)
            self.assertIsInstance(Looks([(-1, 25)] * 23 + [(let, let + 1)]), Looks)
        Looks([(24, 25)] * 24)
        Looks([(-1, 0)] * 24)

    def test_every_row(self):
        for let, turn in itertools.product(range(-3, 28), repeat=2):
            if -1 <= let <= 24 and 0 <= turn <= 25 and let < turn:
                Looks([(let, turn), (0, 1)])
                if turn == let + 1:
                    Looks([(0, 2), (let, turn)])
                else:
                    self.assertNoTable(1, [(0, 2), (let, turn)])
            else:
                self.assertNoTable(0, [(let, turn), (0, 1)])
                self.assertNoTable(1, [(0, 2), (let, turn)])

    def test_what_is_no_list_or_has_no_things(self):
        for thing in NO_LISTS + ([],):
            self.assertNoTable(0, thing)

    def test_more_than_24_things(self):
        self.assertNoTable(24, [(0, 1)] * 25)
        self.assertNoTable(24, [(0, 25)] * 25)
        self.assertNoTable(24, [None] * 25)
        self.assertNoTable(24, [None] + [(0, 1)] * 99)
        self.assertNoTable(24, [(0, 1)] * 10 + ["row"] + [(0, 1)] * 20)

    def test_what_is_no_row(self):
        for thing in NO_ROWS:
            self.assertNoTable(0, [thing])
            self.assertNoTable(0, [thing, (0, 1)])
            self.assertNoTable(1, [(0, 2), thing])
            self.assertNoTable(1, [(0, 2), thing, (0, 1)])
            self.assertNoTable(23, [(0, 2)] * 23 + [thing])

    def test_the_first_wrong_thing(self):
        for number in range(24):
            for last in ((0, 1), (0, 2), None):
                rows = [(0, 2)] * number + [(1, 1)] + [None] * (23 - number)
                self.assertNoTable(number, rows[:23] + [last] if number < 23 else rows)
        self.assertNoTable(1, [(0, 2), None, (0, 2)])
        self.assertNoTable(1, [(0, 2), None, (0, 1), "row"])

    def test_a_last_row_that_is_open(self):
        for let, turn in ((-1, 1), (0, 2), (0, 25), (-1, 25), (23, 25)):
            for many in (1, 2, 23, 24):
                self.assertNoTable(many - 1, [(0, 1)] * (many - 1) + [(let, turn)])

    def test_a_table_whose_rows_are_changed(self):
        rows = [(-1, 2), (0, 1)]
        before = copy.deepcopy(rows)
        table = Looks(rows)
        told = (table.judged([0, 1]), table.endings(3, 1), table.let_by(3, 1), table.looked_at(3, 1))
        self.assertEqual(rows, before)
        rows[0] = (24, 25)
        rows[1] = None
        rows.append((9, 10))
        self.assertEqual((table.judged([0, 1]), table.endings(3, 1), table.let_by(3, 1), table.looked_at(3, 1)), told)
        rows.clear()
        self.assertEqual((table.judged([0, 1]), table.endings(3, 1), table.let_by(3, 1), table.looked_at(3, 1)), told)
        self.assertNoLot(table.endings, 1, 0)

    def test_two_tables_of_the_same_rows(self):
        rows = [(-1, 2), (0, 1)]
        one, other = Looks(rows), Looks(rows)
        one.endings(2, 1).clear()
        self.assertEqual(other.endings(2, 1), Looks([(-1, 2), (0, 1)]).endings(2, 1))
        self.assertEqual(Looks([(0, 1)]).judged([1]), ("down", 1))
        self.assertEqual(one.judged([1]), ("open", 1))


class JudgedTest(WaresTest):
    """Promises 2, 5, 6 and 101."""

    def test_by_hand(self):
        table = Looks([(-1, 2), (-1, 2), (0, 2), (1, 2)])
        for wares, told in (([], ("open", 0)), ([0], ("open", 1)), ([1], ("open", 1)), ([1, 0], ("open", 2)),
                            ([0, 0, 0], ("by", 3)), ([0, 1, 0], ("open", 3)), ([0, 1, 0, 0], ("by", 4)),
                            ([0, 1, 0, 1], ("down", 4)), ([1, 1], ("down", 2)), ([1, 0, 1], ("down", 3)),
                            ([1, 1, 0, 0], ("down", 2)), ([0, 0, 0, 1, 1, 1, 1], ("by", 3))):
            self.assertEqual(table.judged(wares), told)

    def test_tables_of_one_row(self):
        for let, good, bad in ((-1, "down", "down"), (0, "by", "down"), (1, "by", "by"), (24, "by", "by")):
            table = Looks([(let, let + 1)])
            self.assertEqual(table.judged([]), ("open", 0))
            for behind in range(24):
                self.assertEqual(table.judged([0] + [1] * behind), (good, 1))
                self.assertEqual(table.judged([1] + [0] * behind), (bad, 1))

    def test_24_rows(self):
        table = Looks([(-1, 25)] * 23 + [(23, 24)])
        self.assertEqual(table.judged([1] * 23), ("open", 23))
        self.assertEqual(table.judged([1] * 24), ("down", 24))
        self.assertEqual(table.judged([1] * 23 + [0]), ("by", 24))

    def test_all_wares(self):
        chance = random.Random(101)
        for rows in drawn_tables(chance, 6, 60):
            table = Looks(rows)
            for many in range(8):
                for wares in itertools.product((0, 1), repeat=many):
                    self.assertEqual(table.judged(list(wares)), judged_by_hand(rows, wares))

    def test_some_wares_of_long_tables(self):
        chance = random.Random(24)
        for rows in drawn_tables(chance, 24, 300):
            wares = [chance.choice((0, chance.randint(0, 1))) for place in range(chance.randint(0, 24))]
            self.assertEqual(Looks(rows).judged(wares), judged_by_hand(rows, wares))

    def test_at_most_24_wares(self):
        table = Looks([(0, 1)])
        self.assertEqual(table.judged([0] * 24), ("by", 1))
        self.assertNoLot(table.judged, [0] * 25)
        self.assertNoLot(table.judged, [0] * 1000)

    def test_what_are_no_wares(self):
        for rows in ([(0, 1)], [(-1, 3), (-1, 3), (0, 1)]):
            table = Looks(rows)
            for thing in NO_LISTS:
                self.assertNoLot(table.judged, thing)
            for thing in NO_WHOLE_NUMBERS + (2, -1, 10 ** 20):
                self.assertNoLot(table.judged, [thing])
                self.assertNoLot(table.judged, [0, 0, thing])
                self.assertNoLot(table.judged, [thing, 0, 0])
                # Also where it stands behind the end.
                self.assertNoLot(table.judged, [0] * 23 + [thing])
            self.assertEqual(table.judged([0]), ("by", 1) if len(rows) == 1 else ("open", 1))

    def test_the_wares_stay_as_they_are(self):
        wares = [0, 1, 0]
        Looks([(-1, 2), (0, 1)]).judged(wares)
        self.assertEqual(wares, [0, 1, 0])


class EndingsTest(WaresTest):
    """Promises 5, 6, 9 and 102 to 104."""

    def assertEndings(self, rows, lot, bad):
        """What is told of the lot is what comes of all sets of places."""
        table = Looks(rows)
        endings = endings_by_all(rows, lot, bad)
        self.assertEqual(table.endings(lot, bad), endings)
        sets = comb(lot, bad)
        self.assertEqual(sum(many for looked, found, word, many in endings), sets)
        by = sum(many for looked, found, word, many in endings if word == "by")
        self.assertEqual(table.let_by(lot, bad), pair(Fraction(by, sets)))
        looks = sum(looked * many for looked, found, word, many in endings)
        self.assertEqual(table.looked_at(lot, bad), pair(Fraction(looks, sets)))

    def test_by_hand(self):
        table = Looks([(-1, 2), (0, 2), (0, 1)])
        self.assertEqual(table.endings(3, 0), [(2, 0, "by", 1)])
        self.assertEqual(table.endings(3, 1), [(2, 0, "by", 1), (3, 1, "down", 2)])
        self.assertEqual(table.endings(4, 2), [(2, 0, "by", 1), (2, 2, "down", 1), (3, 1, "down", 2), (3, 2, "down", 2)])
        self.assertEqual(table.endings(3, 3), [(2, 2, "down", 1)])
        self.assertEqual((table.let_by(3, 0), table.looked_at(3, 0)), ((1, 1), (2, 1)))
        self.assertEqual((table.let_by(3, 1), table.looked_at(3, 1)), ((1, 3), (8, 3)))
        self.assertEqual((table.let_by(4, 2), table.looked_at(4, 2)), ((1, 6), (8, 3)))
        self.assertEqual((table.let_by(3, 3), table.looked_at(3, 3)), ((0, 1), (2, 1)))

    def test_one_row(self):
        for lot in (1, 2, 5, 24):
            for bad in range(lot + 1):
                self.assertEqual(Looks([(-1, 0)]).let_by(lot, bad), (0, 1))
                self.assertEqual(Looks([(0, 1)]).let_by(lot, bad), pair(Fraction(lot - bad, lot)))
                self.assertEqual(Looks([(1, 2)]).let_by(lot, bad), (1, 1))
                self.assertEqual(Looks([(0, 1)]).looked_at(lot, bad), (1, 1))
        self.assertEqual(Looks([(0, 1)]).endings(24, 12), [(1, 0, "by", comb(23, 12)), (1, 1, "down", comb(23, 11))])
        self.assertEqual(Looks([(0, 1)]).endings(24, 0), [(1, 0, "by", 1)])
        self.assertEqual(Looks([(0, 1)]).endings(24, 24), [(1, 1, "down", 1)])

    def test_all_are_looked_at(self):
        rows = [(-1, 25)] * 23 + [(12, 13)]
        for bad in range(25):
            word = "by" if bad <= 12 else "down"
            self.assertEqual(Looks(rows).endings(24, bad), [(24, bad, word, comb(24, bad))])
            self.assertEqual(Looks(rows).let_by(24, bad), (1, 1) if bad <= 12 else (0, 1))
            self.assertEqual(Looks(rows).looked_at(24, bad), (24, 1))

    def test_rows_behind_an_end_are_never_asked(self):
        for lot, bad in ((3, 0), (3, 1), (24, 12)):
            self.assertEqual(Looks([(24, 25), (-1, 0), (0, 1)]).endings(lot, bad), Looks([(24, 25)]).endings(lot, bad))

    def test_against_all_sets_of_places(self):
        chance = random.Random(102)
        for rows in drawn_tables(chance, 6, 80):
            for lot in range(len(rows), 8):
                for bad in range(lot + 1):
                    self.assertEndings(rows, lot, bad)

    def test_longer_tables_against_all_sets_of_places(self):
        chance = random.Random(103)
        for case in range(30):
            rows = drawn_table(chance, chance.choice((9, 10, 11)))
            lot = chance.randint(len(rows), 12)
            self.assertEndings(rows, lot, chance.choice((0, 1, lot // 2, lot - 1, lot)))

    def test_lots_of_24_with_few_bad_ones(self):
        chance = random.Random(104)
        for rows in drawn_tables(chance, 24, 40):
            for bad in (0, 1, 2, 22, 23, 24):
                self.assertEndings(rows, 24, bad)

    def test_manies_come_to_all_sets_of_places_and_rise(self):
        chance = random.Random(105)
        for rows in drawn_tables(chance, 24, 150):
            lot = chance.choice((len(rows), 24, chance.randint(len(rows), 24)))
            bad = chance.randint(0, lot)
            told = Looks(rows).endings(lot, bad)
            self.assertEqual(sum(many for looked, found, word, many in told), comb(lot, bad))
            self.assertEqual(told, sorted(told))
            self.assertEqual(len({ending[:2] for ending in told}), len(told))
            for looked, found, word, many in told:
                let, turn = rows[looked - 1]
                self.assertGreaterEqual(many, 1)
                self.assertTrue(found <= let if word == "by" else word == "down" and found >= turn)

    def test_never_let_by_more_where_one_more_is_bad(self):
        chance = random.Random(106)
        for rows in drawn_tables(chance, 24, 120):
            table = Looks(rows)
            for lot in sorted({len(rows), chance.randint(len(rows), 24), 24}):
                shares = [table.let_by(lot, bad) for bad in range(lot + 1)]
                for one, other in zip(shares, shares[1:]):
                    self.assertFalse(below(one, other), (rows, lot, shares))

    def test_a_lot_let_by_was_let_by_before_no_later(self):
        chance = random.Random(107)
        for rows in drawn_tables(chance, 6, 40):
            table = Looks(rows)
            for wares in itertools.product((0, 1), repeat=len(rows)):
                for place in range(len(wares)):
                    if wares[place] == 0:
                        word, looked = table.judged(list(wares[:place]) + [1] + list(wares[place + 1:]))
                        first, its_looked = table.judged(list(wares))
                        self.assertTrue(word == "down" or (first == "by" and its_looked <= looked))

    def test_what_is_no_lot(self):
        for many in (1, 2, 23, 24):
            table = Looks([(-1, 25)] * (many - 1) + [(0, 1)])
            for ask in (table.endings, table.let_by, table.looked_at):
                for thing in NO_WHOLE_NUMBERS + (many - 1, 0, -1, 25, 10 ** 20):
                    self.assertNoLot(ask, thing, 0)
                    self.assertNoLot(ask, thing, thing)
                for lot in (many, 24):
                    ask(lot, 0)
                    ask(lot, lot)
                    for thing in NO_WHOLE_NUMBERS + (lot + 1, 25, -1, 10 ** 20):
                        self.assertNoLot(ask, lot, thing)
                self.assertNoLot(ask, None, None)

    def test_the_endings_told_are_the_askers_own(self):
        table = Looks([(-1, 2), (0, 2), (0, 1)])
        before = table.endings(4, 2)
        told = table.endings(4, 2)
        told[0] = None
        told.clear()
        self.assertEqual(table.endings(4, 2), before)
        self.assertEqual((table.let_by(4, 2), table.looked_at(4, 2)), ((1, 6), (8, 3)))


if __name__ == "__main__":
    unittest.main()
