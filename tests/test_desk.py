"""Point [30]: the desk's rows, its answers and its refusals."""

import random
import unittest

from trudge import errors
from trudge.boundless import boundless
from trudge.desk import Desk
from trudge.keeper import Keeper
from trudge.soon import soonest
from walking import drawn_table

FULL = 10 ** 20
FAR = 10 ** 18

# One row of each first word that could be answered in a land of three places.
ROWS = (
    "land 3 10", "lay 1 0 1 -5", "lift 1", "turn 1 4", "refill 9", "aim 1 - 2", "least", "highest 1 - 2", "ways",
    "store 0 1 2 3", "soon 0 1 2 3 4", "any 1 - 2",
)
NO_NUMBERS = (
    "", "+1", "--1", "-0", "00", "01", "-01", "1.0", "1e3", "0x1", "1_0", "one", "1-", "-a", "\u0661",
    "\u00b2", "\uff11", "1\n", "\t1", "\u00a01", "None", "True", "9" * 61, "-" + "9" * 61, "1" + "0" * 60, ",", "1,2",
)


def written(table):
    return " ".join("-" if level is None else str(level) for level in table)


def written_move(moved):
    return " ".join(["fell", *map(str, moved[0]), "rose", *map(str, moved[1])])


def opened(rows):
    desk = Desk()
    for row in rows:
        desk.say(row)
    return desk


class AnswersTest(unittest.TestCase):
    def test_told_rows(self):
        desk = Desk()
        for row, answer in (
                ("land 3 30", "ok"),
                ("least", "- - -"),
                ("ways", "ways"),
                ("aim - - 7", "fell 2 rose"),
                ("lay 3 0 2 -20", "fell 0 rose"),
                ("lay 1 0 1 -5", "fell rose"),
                ("lay 1000000000000000000 1 0 7", "fell 0 1 rose"),
                ("least", "5 0 7"),
                ("ways", "ways 1:0>1:-5 3:0>2:-20 1000000000000000000:1>0:7"),
                ("highest 5 - -", "30 25 10"),
                ("highest 4 - -", "4 - -"),
                ("highest - - -", "- - -"),
                ("store 0 5 2 7", "27"),
                ("store 0 4 2 7", "none"),
                ("store 2 9 2 7", "9"),
                ("soon 0 5 2 7 200", "23"),
                ("soon 0 5 2 7 22", "not"),
                ("soon 0 5 0 5 0", "0"),
                ("soon 0 27 2 7 1", "1"),
                ("any 5 - -", "any any any"),
                ("any 4 - -", "4 - -"),
                ("any - - 7", "- - 7"),
                ("any 4 - 7", "4 - 7"),
                ("turn 1 -6", "fell rose 0"),
                ("least", "6 0 7"),
                ("turn 1000000000000000000 5", "fell rose 0 1"),
                ("refill 26", "fell rose 0 1"),
                ("least", "- - 7"),
                ("refill 27", "fell 0 1 rose"),
                ("least", "27 22 7"),
                ("lift 3", "fell rose 0 1"),
                ("aim 0 - -", "fell 0 1 rose 2"),
                ("refill 0", "fell rose"),
                ("refill 100000000000000000000", "fell rose"),
                ("land 1 0", "ok"),
                ("least", "-"),
                ("ways", "ways"),
                ("aim 0", "fell 0 rose"),
                ("lay 1 0 0 0", "fell rose"),
                ("ways", "ways 1:0>0:0"),
                ("any 0", "0"),
                ("land 12 100000000000000000000", "ok"),
                ("least", " ".join("-" * 12))):
            self.assertEqual(desk.say(row), answer, row)

    def test_answers_are_texts(self):
        desk = Desk()
        for row in ROWS:
            try:
                self.assertIs(desk.say(row).__class__, str)
            except errors.NoWay:
                self.assertIn(row, ("lift 1", "turn 1 4"))

    def test_the_greatest_numbers(self):
        desk = opened(["land 12 100000000000000000000", f"lay {FAR} 0 1 {-FAR}", f"lay 1 0 0 {FAR}"])
        self.assertEqual(desk.say("ways"), f"ways 1:0>0:{FAR} {FAR}:0>1:{-FAR}")
        self.assertEqual(desk.say("highest 0" + " -" * 11), f"{FULL} {FULL - FAR}" + " -" * 10)
        self.assertEqual(desk.say(f"store 0 0 1 {FAR}"), str(2 * FAR))
        self.assertEqual(desk.say(f"soon 0 0 1 {FAR} 200"), "3")
        self.assertEqual(desk.say(f"any {FAR}" + " -" * 11), "any any" + " -" * 10)

    def test_against_the_keeper_and_the_functions(self):
        draw = random.Random(1)
        asked = {}
        for number in range(40):
            many, store = draw.randint(1, 12), draw.choice((0, 9, 30, FAR, FULL))
            desk, keeper = Desk(), Keeper(many, store, [None] * many)
            self.assertEqual(desk.say(f"land {many} {store}"), "ok")
            for deed in range(60):
                row, answer = self.drawn_row(draw, keeper, many)
                asked[row.split(" ")[0]] = asked.get(row.split(" ")[0], 0) + 1
                if isinstance(answer, str):
                    self.assertEqual(desk.say(row), answer, row)
                else:
                    with self.assertRaises(answer.__class__) as caught:
                        desk.say(row)
                    self.assertEqual(vars(caught.exception), vars(answer), row)
                self.assertEqual(desk.say("least"), written(keeper.least()))
                self.assertEqual(desk.say("ways"), " ".join(
                    ["ways"] + [f"{label}:{start}>{end}:{change}" for label, start, end, change in keeper.ways()]))
        self.assertGreater(min(asked.values()), 20)
        self.assertEqual(len(asked), 9)

    def drawn_row(self, draw, keeper, many):
        """A row, and what is answered by the keeper or the functions, or the refusal that is due."""
        reach = draw.choice((3, 10, FAR))
        name = draw.choice(("lay", "lay", "lay", "lift", "turn", "refill", "aim", "highest", "store", "soon", "any"))
        labels = draw.choice(([way[0] for way in keeper.ways()], range(1, 60))) or [5]
        store = keeper.store()
        spots = [(draw.randrange(many), draw.randint(0, min(store, reach))) for spot in range(2)]
        words = {
            "lay": (draw.choice(labels), draw.randint(0, many), draw.randrange(many), draw.randint(-reach, reach)),
            "lift": (draw.choice(labels),), "turn": (draw.choice(labels), draw.randint(-reach, reach + 1)),
            "refill": (draw.choice((0, 20, FAR, FULL, FULL + 1)),), "store": spots[0] + spots[1],
            "soon": spots[0] + spots[1] + (draw.choice((0, 3, 200)),),
        }
        if name in ("aim", "highest", "any"):
            table = drawn_table(draw, many, min(store, FAR))
            row = f"{name} {written(table)}"
            if name == "highest":
                return (row, written(keeper.highest(table)))
            if name == "any":
                return (row, written(boundless(keeper.land(), table)))
            return (row, self.answer_of(keeper.aim, table))
        row = " ".join([name, *map(str, words[name])])
        if name == "store":
            told = keeper.least_store(*spots)
            return (row, "none" if told is None else str(told))
        if name == "soon":
            told = soonest(keeper.land(), store, *spots, words[name][4])
            return (row, str(len(told[1])) if told[0] == "through" else "not")
        return (row, self.answer_of(getattr(keeper, name), *words[name]))

    def answer_of(self, deed, *handed):
        try:
            return written_move(deed(*handed))
        except errors.TrudgeError as refusal:
            return refusal

    def test_a_new_land_knows_nothing_of_the_old_one(self):
        desk = opened(["land 3 10", "aim 1 - 2", "lay 1 0 1 -5"])
        self.assertEqual(desk.say("land 3 10"), "ok")
        self.assertEqual([desk.say("ways"), desk.say("least")], ["ways", "- - -"])
        self.assertEqual(desk.say("lay 1 0 1 -5"), "fell rose")

    def test_two_desks_know_nothing_of_one_another(self):
        one, other = Desk(), Desk()
        one.say("land 3 10")
        self.assertRaises(errors.NoLand, other.say, "least")
        other.say("land 2 5")
        one.say("lay 1 0 1 -5")
        other.say("lay 1 1 0 4")
        self.assertEqual([one.say("ways"), other.say("ways")], ["ways 1:0>1:-5", "ways 1:1>0:4"])


class RefusalsTest(unittest.TestCase):
    LAID = ("land 3 10", "aim 1 - 2", "lay 1 0 1 -5", "lay 7 1 2 3")

    def setUp(self):
        self.desk = opened(self.LAID)

    def assert_refused(self, refusal, row, desk=None):
        """The refusal is of just this class and changes nothing."""
        with self.assertRaises(errors.TrudgeError) as caught:
            (desk or self.desk).say(row)
        self.assertIs(caught.exception.__class__, refusal, repr(row))
        if desk is None:
            self.assertEqual([self.desk.say("ways"), self.desk.say("least"), self.desk.say("highest 10 10 10")],
                             ["ways 1:0>1:-5 7:1>2:3", "1 0 2", "10 10 10"])
        return caught.exception

    def test_no_text(self):
        for thing in (None, True, 0, 1, b"least", [], ["least"], ("least",), {}, {"least": 1}, object(), str, len):
            self.assert_refused(errors.NoRow, thing)
            self.assert_refused(errors.NoRow, thing, Desk())

    def test_a_first_word_that_is_none(self):
        for row in ("", " ", "  ", "Least", "LEAST", "leas", "leastt", "least\n", "\tleast", " least", "goal", "trip 1",
                    "1 2 3", "-", "land\u00a03 10", "\u00e9", "ok", "lay:1", "any\n1 - 2", "None", "say least",
                    "\ud800"):
            self.assert_refused(errors.NoRow, row)
            self.assert_refused(errors.NoRow, row, Desk())

    def test_too_few_and_too_many_words(self):
        for row in ROWS:
            words = row.split(" ")
            tabled = words[0] in ("aim", "highest", "any")
            shorter = [words[:1]] if tabled else [words[:count] for count in range(1, len(words))]
            longer = [] if tabled else [words + ["1"], words + [""], words + ["1", "2"], words + ["x"]]
            for changed in shorter + longer:
                self.assert_refused(errors.NoRow, " ".join(changed))
                self.assert_refused(errors.NoRow, " ".join(changed), Desk())
        # Each blank parts, so two of them have a word without signs between.
        for row in ("least ", "ways ", "lift 1 ", "land 3 10 ", "refill  9", "lift  1"):
            self.assert_refused(errors.NoRow, row)

    def test_what_is_no_number(self):
        for row in ROWS:
            words = row.split(" ")
            for at in range(1, len(words)):
                for word in NO_NUMBERS:
                    changed = " ".join(words[:at] + [word] + words[at + 1:])
                    self.assert_refused(errors.NoText, changed)
                    self.assert_refused(errors.NoText, changed, Desk())

    def test_a_minus_alone_but_in_a_table(self):
        for row in ROWS:
            words = row.split(" ")
            for at in range(1, len(words)):
                if words[0] not in ("aim", "highest", "any"):
                    self.assert_refused(errors.NoText, " ".join(words[:at] + ["-"] + words[at + 1:]))
                    self.assert_refused(errors.NoText, " ".join(words[:at] + ["-"] + words[at + 1:]), Desk())
        self.assertEqual(self.desk.say("highest - - -"), "- - -")

    def test_sixty_figures(self):
        for figures, refusal in (("9" * 60, errors.BadLabel), ("9" * 61, errors.NoText)):
            self.assert_refused(refusal, f"lay {figures} 0 1 2")
        for figures, refusal in (("-" + "9" * 60, errors.BadWay), ("-" + "9" * 61, errors.NoText)):
            self.assert_refused(refusal, f"lay 2 0 1 {figures}")
        for figures, refusal in (("9" * 60, errors.BadGoal), ("9" * 61, errors.NoText)):
            self.assert_refused(refusal, f"aim {figures} - -")
            self.assert_refused(refusal, f"any {figures} - -")
            self.assert_refused(refusal, f"highest - - {figures}")
            self.assert_refused(refusal, f"soon 0 1 1 1 {figures}")
            self.assert_refused(refusal, f"store 0 {figures} 1 1")

    def test_a_land_that_is_none(self):
        for row in ("land 0 10", "land 13 10", "land -1 10", "land 3 -1", f"land 3 {FULL + 1}", "land 0 -1",
                    "land " + "9" * 60 + " 10", "land - 10", "land 3 -"):
            self.assert_refused(errors.NoText, row)
            desk = Desk()
            self.assert_refused(errors.NoText, row, desk)
            self.assert_refused(errors.NoLand, "least", desk)

    def test_ahead_of_the_first_land(self):
        for row in ROWS[1:]:
            self.assert_refused(errors.NoLand, row, Desk())
        # Also what would be refused otherwise by a keeper or for what it has.
        for row in ("lay 0 9 9 9", "lift 5", "turn 5 " + "9" * 60, "refill -1", "aim -5", "highest -5 9", "any -1",
                    "store 9 -1 9 -1", "soon 0 -1 50 9 999"):
            self.assert_refused(errors.NoLand, row, Desk())
        # What can't be read goes first, and what is no row ahead of that.
        self.assert_refused(errors.NoText, "lay 0 9 9 x", Desk())
        self.assert_refused(errors.NoRow, "lay 0 9 x", Desk())

    def test_what_the_keeper_refuses(self):
        for row, refusal in (
                ("lay 0 0 1 2", errors.BadLabel), ("lay -1 0 1 2", errors.BadLabel),
                (f"lay {FAR + 1} 0 1 2", errors.BadLabel), ("lay 0 9 9 9", errors.BadLabel),
                ("lay 1 0 1 2", errors.Taken), ("lay 1 9 9 9", errors.Taken),
                ("lay 2 3 1 2", errors.BadWay), ("lay 2 0 -1 2", errors.BadWay),
                (f"lay 2 0 1 {FAR + 1}", errors.BadWay),
                ("lift 2", errors.NoWay), ("lift 0", errors.NoWay), ("lift -5", errors.NoWay),
                ("turn 2 5", errors.NoWay), (f"turn 2 {FAR + 1}", errors.NoWay), (f"turn 1 {-FAR - 1}", errors.BadWay),
                ("refill -1", errors.BadStore), ("refill 1", errors.BadStore), (f"refill {FULL + 1}", errors.BadStore),
                ("aim 1 1", errors.BadGoal), ("aim 1 1 1 1", errors.BadGoal), ("aim 11 - -", errors.BadGoal),
                ("aim -1 - -", errors.BadGoal)):
            self.assert_refused(refusal, row)
        self.assertEqual(self.assert_refused(errors.Taken, "lay 7 0 1 2").label, 7)
        self.assertEqual(self.assert_refused(errors.NoWay, "lift 8").label, 8)

    def test_too_many_ways(self):
        desk = Desk()
        desk.say("land 2 10")
        for label in range(1, 41):
            desk.say(f"lay {label} 0 1 2")
        self.assertEqual(self.assert_refused(errors.TooMany, "lay 41 0 1 2", desk).most, 40)

    def test_tables_that_are_none(self):
        for name in ("aim", "highest", "any"):
            for table in ("1", "-", "1 1", "1 1 1 1", "- - - -", "11 - -", "- - 11", "-1 - -", "- -1 -", "10 10 11"):
                self.assert_refused(errors.BadGoal, f"{name} {table}")

    def test_a_level_without_bound_is_not_above_its_own_bound(self):
        desk = opened([f"land 2 {FULL}"])
        self.assertEqual(desk.say(f"any {FAR} -"), f"{FAR} -")
        self.assert_refused(errors.BadGoal, f"any {FAR + 1} -", desk)
        self.assert_refused(errors.BadGoal, f"any - {FULL}", desk)
        self.assertEqual(desk.say(f"highest {FULL} {FAR + 1}"), f"{FULL} {FAR + 1}")

    def test_places_and_levels_that_are_none(self):
        for spot in ("3 1", "-1 1", "0 -1", f"0 {FAR + 1}", "9 -9"):
            self.assert_refused(errors.BadGoal, f"store {spot} 0 1")
            self.assert_refused(errors.BadGoal, f"store 0 1 {spot}")
            self.assert_refused(errors.BadGoal, f"soon {spot} 0 1 5")
            self.assert_refused(errors.BadGoal, f"soon 0 1 {spot} 5")

    def test_levels_above_the_store(self):
        self.assertEqual(self.desk.say("store 0 11 0 10"), "11")
        self.assertEqual(self.desk.say(f"store 0 {FAR} 0 {FAR}"), str(FAR))
        self.assertEqual(self.desk.say("soon 0 10 0 10 0"), "0")
        self.assert_refused(errors.BadGoal, "soon 0 11 0 10 0")
        self.assert_refused(errors.BadGoal, "soon 0 10 0 11 0")
        desk = opened([f"land 2 {FULL}"])
        self.assertEqual(desk.say(f"soon 0 {FAR} 0 {FAR} 0"), "0")
        self.assert_refused(errors.BadGoal, f"soon 0 {FAR + 1} 0 0 0", desk)
        self.assert_refused(errors.BadGoal, f"soon 0 0 0 {FAR + 1} 0", desk)

    def test_counts_that_are_none(self):
        for most in (-1, 201, 10 ** 59):
            self.assert_refused(errors.BadGoal, f"soon 0 1 2 3 {most}")
        self.assertEqual(self.desk.say("soon 0 5 1 0 200"), "1")
        self.assertEqual(self.desk.say("soon 0 5 1 0 0"), "not")

    def test_what_cannot_be_read_goes_ahead_of_what_is_refused(self):
        for row in ("lay 0 9 9 x", "lay 1 0 1 x", "lift x", "turn 2 x", "aim 11 x", "highest 11 x -", "any -1 x -",
                    "store 9 9 9 x", "soon 9 9 9 9 x"):
            self.assert_refused(errors.NoText, row)


if __name__ == "__main__":
    unittest.main()
