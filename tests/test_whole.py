"""What the document promises over the whole program."""

import copy
import importlib
import inspect
import random
import unittest
from fractions import Fraction

from fewspeak.dice import Die, Node, Told, behind, both, drawn, matrix_of, table
from fewspeak.duels import Duel, duel_matrix, duels
from fewspeak.errors import NoLevel, NoSpread, SpeakError, TooMany
from fewspeak.fractions import share
from fewspeak.lacking import mean_stretch, total_stretch
from fewspeak.lasts import Last
from fewspeak.led import is_led, led
from fewspeak.listings import crowd_of, groups_of, listing_lines, listing_of, need_units, values_of
from fewspeak.nested import Each, First
from fewspeak.papers import hidden, unspoken
from fewspeak.plans import Few, Loose, Plan, Start, wished
from fewspeak.plantexts import plan_of
from fewspeak.pots import Pot, into, poured, streamed
from fewspeak.sums import chances, mean_told, spread, spread_by, spread_told, sum_told, true_sum
from fewspeak.turns import Turn, alongside, away, counts, overlap, panel, picked, spun, stays
from fewspeak.wares import Looks
from walks import pair, shape, walk, walked_matrix, walked_table, ways

# The interface of DOC.md: of each module its functions and classes, with the names of their arguments, and of each
# class its methods, with theirs.
INTERFACE = {
    "words": {"is_whole": "thing low high", "is_name": "thing", "number_of": "text low high"},
    "listings": {"need_units": "units", "listing_of": "lines", "listing_lines": "units", "values_of": "units",
                 "crowd_of": "units", "groups_of": "crowd"},
    "fractions": {"share": "top bottom", "plus": "one other", "minus": "one other", "times": "one other",
                  "over": "one other", "below": "one other"},
    "dice": {"Told": "kept", "Die": "parts", "drawn": "node throws", "table": "node", "both": "one other",
             "behind": "node go", "matrix_of": "node places"},
    "plans": {"wished": "sizes many", "Few": "many", "Start": "step", "Loose": "many"},
    "duels": {"duels": "shares order", "duel_matrix": "shares order", "Duel": "many"},
    "nested": {"Each": "inside", "First": "outside inside"},
    "plantexts": {"plan_of": "text"},
    "sums": {"chances": "units plan", "true_sum": "units", "mean_told": "units plan", "sum_told": "units plan kept",
             "spread": "units plan", "spread_by": "rows values", "spread_told": "units plan kept"},
    "papers": {"hidden": "units plan", "unspoken": "units plan"},
    "turns": {"Turn": "start many", "overlap": "one other", "alongside": "turn many", "away": "turn many",
              "panel": "many by count", "stays": "turns number", "counts": "turns", "picked": "start manys numbers",
              "spun": "turns"},
    "pots": {"Pot": "most", "streamed": "many most", "poured": "one other", "into": "one other kept"},
    "lasts": {"Last": "wide most"},
    "led": {"led": "rows columns units", "is_led": "rows columns units told"},
    "lacking": {"total_stretch": "answers", "mean_stretch": "answers"},
    "wares": {"Looks": "rows"},
}
NODE_METHODS = {"is_told": "", "kept": "", "sides": "", "parts": "", "after": "throw"}
PLAN_METHODS = {"node": "crowd", "matrix": "crowd", "bounds": "crowd", "text": "", "need_levels": "levels"}
METHODS = {
    Told: NODE_METHODS, Die: NODE_METHODS, Few: PLAN_METHODS, Start: PLAN_METHODS, Loose: PLAN_METHODS,
    Duel: PLAN_METHODS, Each: PLAN_METHODS, First: PLAN_METHODS,
    Turn: {"has": "number", "members": "numbers", "moved": "by"},
    Pot: {"come": "thing throw", "next_sides": "", "came": "", "things": ""},
    Last: {"come": "thing number", "came": "", "sample": "", "candidates": ""},
    Looks: {"judged": "wares", "endings": "lot bad", "let_by": "lot bad", "looked_at": "lot bad"},
}


def drawn_lines(chance, many, names):
    """Lines of a listing of so many units, whose paths have so many names."""
    lines = []
    for place in range(many):
        path = ".".join(chance.choice("ab") for name in range(names)) or "-"
        lines.append(f"unit{'abcdefgh'[place]} {chance.randint(-9, 9)} {chance.choice((1, 1, 2, 3))} {path}")
    return lines


def drawn_text(chance, names):
    """The text of a plan that needs at most so many names."""
    if names and chance.random() < 0.8:
        inside = drawn_text(chance, names - 1)
        if chance.random() < 0.5:
            return f"each ( {inside} )"
        return f"first ( {drawn_text(chance, 0)} ) then ( {inside} )"
    word = chance.choice(("few", "start", "loose", "duel"))
    return f"{word} {chance.randint(1 if word == 'start' else 0, 3)}"


def drawn_cases(seed, many):
    """Tuples (lines, text) whose plan has at most 4096 ways."""
    chance = random.Random(seed)
    found = 0
    while found < many:
        names = chance.randint(0, 3)
        lines, text = drawn_lines(chance, chance.randint(1, 6), names), drawn_text(chance, names)
        try:
            table(plan_of(text).node(crowd_of(listing_of(lines))))
        except TooMany:
            continue
        found += 1
        yield lines, text


def by_kept(node):
    """What is kept, with its share over all throws, by the parts of the dice themselves."""
    found = {}
    for kept, part in ways(node):
        found[kept] = found.get(kept, 0) + part
    return found


def some_throws(chance, node):
    throws = []
    while not node.is_told():
        throws.append(chance.randrange(node.sides()))
        node = node.after(throws[-1])
    return throws, node.kept()


def spoil(thing):
    """Whatever lists and dicts are within a thing are emptied."""
    if isinstance(thing, (list, tuple)):
        for part in thing:
            spoil(part)
    if isinstance(thing, dict):
        for part in thing.values():
            spoil(part)
    if isinstance(thing, (list, dict)):
        thing.clear()


def plain(thing):
    """A thing without objects of the program: nodes by all their parts, others by what they tell."""
    if isinstance(thing, Node):
        return ("node", shape(thing))
    if isinstance(thing, Plan):
        return ("plan", thing.text())
    if isinstance(thing, Turn):
        return ("turn", thing.start, thing.many)
    if isinstance(thing, Pot):
        return ("pot", thing.most, thing.came(), thing.next_sides(), thing.things())
    if isinstance(thing, (list, tuple)):
        return type(thing)(plain(part) for part in thing)
    return copy.deepcopy(thing)


class InterfaceTest(unittest.TestCase):
    """All names of the interface are there, with their arguments."""

    def arguments(self, thing):
        return " ".join(name for name in inspect.signature(thing).parameters if name != "self")

    def test_functions_and_classes(self):
        for module, names in INTERFACE.items():
            there = importlib.import_module(f"fewspeak.{module}")
            for name, arguments in names.items():
                self.assertEqual(self.arguments(getattr(there, name)), arguments, f"{module}.{name}")

    def test_methods(self):
        for kind, names in METHODS.items():
            for name, arguments in names.items():
                self.assertEqual(self.arguments(getattr(kind, name)), arguments, f"{kind.__name__}.{name}")

    def test_what_stands_under_what(self):
        for kind in (Told, Die):
            self.assertEqual(kind.__bases__, (Node,))
        for kind in (Few, Start, Loose, Duel, Each, First):
            self.assertEqual(kind.__bases__, (Plan,))

    def test_arguments_may_be_named(self):
        self.assertEqual(Last(wide=1, most=2).came(), 0)
        self.assertEqual(led(rows=[1], columns=[1], units=[(0, 0, 0, 1)]), ("weights", [1]))
        self.assertIs(is_led(rows=[1], columns=[1], units=[(0, 0, 0, 1)], told=("weights", [1])), True)
        self.assertEqual(total_stretch(answers=[(1, 2, 3)]), (2, 3, [2], [3]))
        self.assertEqual(mean_stretch(answers=[(1, 2, 3, "yes")]), ((2, 1), (3, 1), [2], [3]))
        self.assertEqual(Looks(rows=[(0, 1)]).judged(wares=[1]), ("down", 1))
        self.assertEqual(Looks(rows=[(0, 1)]).let_by(lot=2, bad=1), (1, 2))


class FromLinesToSumsTest(unittest.TestCase):
    """Promises 1, 7 and 8: lines are read, a plan's text is read, dice are thrown, and sums are reckoned."""

    def test_drawn_listings_and_plans(self):
        chance = random.Random(7)
        for lines, text in drawn_cases(1, 150):
            with self.subTest(lines=lines, text=text):
                units, plan = listing_of(lines), plan_of(text)
                self.assertEqual((listing_lines(units), plan.text()), (lines, text))
                node = plan.node(crowd_of(units))
                self.check_throws(chance, node, lines, text)
                found = by_kept(node)
                self.check_shares(units, plan, found)
                self.check_sums(units, plan, found)
                self.check_spreads(units, plan, found)

    def check_throws(self, chance, node, lines, text):
        for case in range(5):
            throws, kept = some_throws(chance, node)
            again = plan_of(text).node(crowd_of(listing_of(lines)))
            self.assertEqual((drawn(node, throws), drawn(again, throws)), (kept, kept))

    def check_shares(self, units, plan, found):
        crowd = crowd_of(units)
        self.assertEqual(table(plan.node(crowd)), [(kept, pair(found[kept])) for kept in sorted(found)])
        rows = [[pair(sum(part for kept, part in found.items() if one in kept and other in kept))
                 for other in range(len(units))] for one in range(len(units))]
        self.assertEqual(plan.matrix(crowd), rows)
        self.assertEqual(chances(units, plan), rows)
        self.assertEqual(matrix_of(plan.node(crowd), list(range(len(units)))), rows)
        least, most = plan.bounds(crowd)
        sizes = [len(kept) for kept in found]
        self.assertTrue(least <= min(sizes) and max(sizes) <= most)
        if "first" not in plan.text():
            self.assertEqual((least, most), (min(sizes), max(sizes)))
        for kept in found:
            for place in kept:
                self.assertNotEqual(rows[place][place], (0, 1))

    def check_sums(self, units, plan, found):
        mean = sum(Fraction(*sum_told(units, plan, kept)) * part for kept, part in found.items())
        self.assertEqual(mean, mean_told(units, plan))
        shown = hidden(units, plan)
        if shown is None:
            self.assertEqual(mean, true_sum(units))
        else:
            place, values, others = shown
            self.assertEqual(values, values_of(units))
            self.assertNotEqual(sum(values), sum(others))
            for kept in found:
                self.assertEqual([values[number] for number in kept], [others[number] for number in kept])

    def check_spreads(self, units, plan, found):
        mean = mean_told(units, plan)
        missed = sum((Fraction(*sum_told(units, plan, kept)) - mean) ** 2 * part for kept, part in found.items())
        self.assertEqual(spread(units, plan), pair(missed))
        self.assertEqual(spread_by(chances(units, plan), values_of(units)), pair(missed))
        self.assertGreaterEqual(missed, 0)
        shown = unspoken(units, plan)
        if shown is None:
            told = sum(Fraction(*spread_told(units, plan, kept)) * part for kept, part in found.items())
            self.assertEqual(told, missed)
        else:
            one, other, rows = shown
            self.assertTrue(all(not (one in kept and other in kept) for kept in found))
            spreads = [Fraction(*spread_by(chances(units, plan), row)) for row in rows]
            self.assertEqual(spreads[0] - spreads[1] - spreads[2] + spreads[3], -2)
            for kept in found:
                with self.assertRaises(NoSpread) as caught:
                    spread_told(units, plan, kept)
                self.assertEqual((caught.exception.one, caught.exception.other), (one, other))

    def test_both_ends_are_met(self):
        # The drawn cases have plans of both sorts, so that nothing above is skipped.
        told = [(hidden(listing_of(lines), plan_of(text)) is None, unspoken(listing_of(lines), plan_of(text)) is None)
                for lines, text in drawn_cases(1, 150)]
        self.assertGreater(min(told.count((True, True)), told.count((True, False)), told.count((False, True))), 15)

    def test_every_throw_of_plans_within_plans(self):
        lines = ["ann 5 1 a.x.p", "bea -7 2 b.x.p", "cleo 3 1 a.x.q", "dora 11 1 b.y.p", "eve -2 1 a.y.p", "fay 4 2 b.y.q"]
        units = listing_of(lines)
        crowd = crowd_of(units)
        for text in ("each ( each ( each ( few 1 ) ) )", "first ( few 1 ) then ( first ( few 1 ) then ( each ( start 2 ) ) )",
                     "each ( first ( duel 1 ) then ( each ( loose 1 ) ) )", "first ( start 2 ) then ( each ( duel 1 ) )",
                     "first ( loose 1 ) then ( first ( duel 1 ) then ( first ( few 1 ) then ( few 1 ) ) )",
                     "each ( each ( first ( few 1 ) then ( few 1 ) ) )", "each ( duel 2 )"):
            plan = plan_of(text)
            node = plan.node(crowd)
            walked = list(walk(node))
            self.assertEqual(walked_table(node), table(node))
            self.assertEqual(walked_matrix(node, list(range(6))), plan.matrix(crowd))
            for throws, kept, part in walked:
                self.assertEqual(drawn(plan_of(text).node(crowd), list(throws)), kept)
                self.assertTrue(plan.bounds(crowd)[0] <= len(kept) <= plan.bounds(crowd)[1])

    def test_duels_keep_their_shares_in_whatever_order(self):
        chance = random.Random(42)
        for case in range(60):
            shares = [share(chance.randint(0, bottom), bottom) for bottom in (chance.randint(1, 6) for place in range(5))]
            for again in range(3):
                order = chance.sample(range(5), 5)
                found = by_kept(duels(shares, order))
                whole = sum(Fraction(*one) for one in shares)
                for place in range(5):
                    self.assertEqual(pair(sum(part for kept, part in found.items() if place in kept)), shares[place])
                for kept in found:
                    self.assertLess(abs(len(kept) - whole), 1)

    def test_listings_that_are_refused_on_the_way(self):
        units = listing_of(["ann 5 1 a", "bea 6 1 b"])
        for ask in (chances, mean_told, spread, hidden, unspoken):
            for text in ("each ( each ( few 1 ) )", "first ( each ( few 1 ) ) then ( few 1 )"):
                with self.assertRaises(SpeakError) as caught:
                    ask(units, plan_of(text))
                self.assertIs(type(caught.exception), NoLevel)


class AskedAgainTest(unittest.TestCase):
    """Promise 5: what is told is the asker's own, and what is handed in stays as it is."""

    def setUp(self):
        units = listing_of(["ann 5 1 a.x", "bea -7 2 b.x", "cleo 3 1 a.y", "dora 11 1 b.y"])
        self.plan = plan_of("each ( first ( duel 1 ) then ( few 1 ) )")
        self.node = self.plan.node(crowd_of(units))
        self.pot, self.other, self.last = Pot(2), Pot(2), Last(3, 2)
        for place, name in enumerate(("ann", "bea", "cleo")):
            self.pot.come(name, place // 2)
            self.other.come(name, place // 2 * 2)
            self.last.come(name, 5 - place)
        self.turn, self.looks = Turn(990, 30), Looks([(-1, 2), (0, 1)])
        self.handed = {
            "lines": listing_lines(units), "units": units, "crowd": crowd_of(units), "values": [1, 2, 3, 4],
            "rows": chances(units, self.plan), "sizes": [1, 5, 2], "shares": [(1, 2), (1, 3), (2, 3)], "order": [2, 0, 1],
            "throws": some_throws(random.Random(5), self.node)[0], "kept": [0, 1], "places": [3, 0],
            "numbers": [0, 995, 19, 20], "manys": [0, 30, 1000, 5], "turns": [Turn(0, 10), Turn(5, 10)],
            "sums": [4, 2], "columns": [3, 3], "led": [(0, 0, 0, 3), (0, 1, 1, 2), (1, 1, 0, 9)], "weights": [3, 1, 2],
            "answers": [(1, 0, 5), (2, -1, 1)], "worded": [(1, 0, 5, "yes"), (2, -1, 1, "open"), (1, 1, 1, "no")],
            "wares": [0, 1, 0],
        }
        self.parts = [(2, lambda: Told([1, 0])), (1, lambda: Told([2]))]

    def asked(self):
        """All that is asked here, by name: functions of what is handed in."""
        plan, node, pot, other, last = self.plan, self.node, self.pot, self.other, self.last
        turn, looks, parts = self.turn, self.looks, self.parts
        plans = [Few(2), Start(2), Loose(2), Duel(2), Each(Few(1)), First(Few(1), Few(1)), plan]
        told = {
            "listing_of": lambda lines: listing_of(lines), "listing_lines": lambda units: listing_lines(units),
            "values_of": lambda units: values_of(units), "crowd_of": lambda units: crowd_of(units),
            "need_units": lambda units: need_units(units), "groups_of": lambda crowd: groups_of(crowd),
            "Die": lambda: Die(parts), "Die.parts": lambda: Die(parts).parts(), "Told.parts": lambda: Told([1]).parts(),
            "Told": lambda kept: Told(kept), "node.parts": lambda: node.parts(), "node.kept": lambda: node.kept(),
            "drawn": lambda throws: drawn(node, throws), "table": lambda: table(node),
            "both": lambda: both(Die(parts), Told([7])), "behind": lambda: behind(Die(parts), lambda kept: Told(kept)),
            "matrix_of": lambda places: matrix_of(node, places), "wished": lambda sizes: wished(sizes, 2),
            "nodes": lambda crowd: [one.node(crowd) for one in plans],
            "matrices": lambda crowd: [one.matrix(crowd) for one in plans],
            "bounds": lambda crowd: [one.bounds(crowd) for one in plans],
            "duels": lambda shares, order: duels(shares, order),
            "duel_matrix": lambda shares, order: duel_matrix(shares, order),
            "chances": lambda units: chances(units, plan), "true_sum": lambda units: true_sum(units),
            "mean_told": lambda units: mean_told(units, plan), "sum_told": lambda units, kept: sum_told(units, plan, kept),
            "spread": lambda units: spread(units, plan), "spread_by": lambda rows, values: spread_by(rows, values),
            "spread_told": lambda units, kept: spread_told(units, Few(2), kept),
            "hidden": lambda units: hidden(units, Few(0)), "unspoken": lambda units: unspoken(units, Few(1)),
            "members": lambda numbers: turn.members(numbers), "panel": lambda: panel(10, 7, 3),
            "stays": lambda turns: stays(turns, 7), "counts": lambda turns: counts(turns),
            "picked": lambda manys, numbers: picked(990, manys, numbers), "spun": lambda turns: spun(turns),
            "alike": lambda: [alongside(turn, 5), away(turn, 5), overlap(turn, turn), turn.moved(-3)],
            "things": lambda: pot.things(), "streamed": lambda: streamed(4, 2), "poured": lambda: poured(pot, other),
            "into": lambda kept: into(pot, other, kept), "sample": lambda: last.sample(),
            "candidates": lambda: last.candidates(),
            "led": lambda sums, columns, led_units: led(sums, columns, led_units),
            "not led": lambda sums, led_units: led(sums, [6, 0], led_units),
            "is_led": lambda sums, columns, led_units, weights: is_led(sums, columns, led_units, ("weights", weights)),
            "total_stretch": lambda answers: total_stretch(answers), "mean_stretch": lambda worded: mean_stretch(worded),
            "judged": lambda wares: looks.judged(wares), "endings": lambda: looks.endings(4, 2),
            "shares": lambda: [looks.let_by(4, 2), looks.looked_at(4, 2)],
        }
        return told.items()

    def things_for(self, ask):
        """New ones of the things that this asks for."""
        handed = dict(self.handed, led_units=self.handed["led"])
        return [copy.deepcopy(handed[name]) for name in inspect.signature(ask).parameters]

    def test_what_is_told_once_changed_then_asked_again(self):
        first = {name: plain(ask(*self.things_for(ask))) for name, ask in self.asked()}
        for name, ask in self.asked():
            with self.subTest(name):
                spoil(ask(*self.things_for(ask)))
                self.assertEqual(plain(ask(*self.things_for(ask))), first[name])
        self.assertEqual({name: plain(ask(*self.things_for(ask))) for name, ask in self.asked()}, first)

    def test_what_is_handed_in_stays_as_it_is(self):
        for name, ask in self.asked():
            with self.subTest(name):
                things = self.things_for(ask)
                before = plain(things)
                told = ask(*things)
                # A node is thrown through, as it might do its work only then.
                plain(told)
                self.assertEqual(plain(things), before)

    def test_what_is_handed_in_changed_behind_the_call(self):
        for name, ask in self.asked():
            with self.subTest(name):
                wished_for = plain(ask(*self.things_for(ask)))
                things = self.things_for(ask)
                told = ask(*things)
                spoil(things)
                self.assertEqual(plain(told), wished_for)

    def test_what_is_told_has_nothing_in_common(self):
        for name, ask in self.asked():
            with self.subTest(name):
                things = self.things_for(ask)
                one, other = ask(*things), ask(*things)
                wished_for = plain(other)
                spoil(one)
                self.assertEqual(plain(other), wished_for)

    def test_no_fraction_out_of_its_form(self):
        # Each tuple of two whole numbers that these tell is a fraction, or stands for something told elsewhere.
        for name in ("table", "matrix_of", "wished", "matrices", "duel_matrix", "chances", "sum_told", "spread", "spread_by",
                     "spread_told", "mean_stretch", "shares"):
            ask = dict(self.asked())[name]
            found = list(self.fractions_in(ask(*self.things_for(ask)), name == "table"))
            self.assertNotEqual(found, [])
            for thing in found:
                self.assertEqual([type(thing[0]), type(thing[1])], [int, int])
                self.assertEqual(pair(Fraction(*thing)), thing)

    def fractions_in(self, thing, is_table):
        if is_table:
            yield from (part for kept, part in thing)
        elif isinstance(thing, tuple) and len(thing) == 2 and all(isinstance(part, int) for part in thing):
            yield thing
        elif isinstance(thing, (list, tuple)):
            for part in thing:
                yield from self.fractions_in(part, False)


if __name__ == "__main__":
    unittest.main()
