"""forsworn.folk: [10], of [2] days and weights, of [17] the refusals of a Folk, of [1] and [14] what touches it."""

import itertools
import random
import unittest

from forsworn import errors
from forsworn.errors import Dead, NoHeir, NoMeasure, NoName, NotYet, Taken, TooMany, Unknown
from forsworn.folk import Folk
from tests.helper import FAR, FORTY, Refusing, SlowFolk

BAD_DAYS = (-1, -9999, -FAR, 10000, 10001, FAR)
BAD_WEIGHTS = (0, -1, -1000, -FAR, 1001, 1002, FAR)


def answers(folk, days):
    """All that a folk tells of these days."""
    told = [("names", folk.names())]
    for name in folk.names():
        told.append((name, folk.came(name)))
        for day in days:
            if day >= folk.came(name):
                told.append((name, day, folk.weight(name, day)))
            told.append((name, day, folk.dead(name, day), folk.stands_for(name, day)))
    return told


def do(folk, deed):
    method = {"come": folk.come, "rise": folk.rise, "die": folk.die}[deed[0]]
    return method(*deed[1:])


def made_deed(chance, names, days):
    word = chance.choice(("come", "rise", "rise", "die"))
    name = chance.choice(names)
    return (word, name, chance.choice(days), chance.choice(names) if word == "die" else chance.randint(1, 9))


def some_folk():
    folk = Folk()
    folk.come("ann", 5, 10)
    folk.come("bob", 0, 20)
    folk.come("cid", 9, 30)
    return folk


class Coming(unittest.TestCase, Refusing):
    def test_nobody(self):
        folk = Folk()
        self.assertEqual(folk.names(), [])

    def test_names_in_the_order_of_coming(self):
        self.assertEqual(some_folk().names(), ["ann", "bob", "cid"])
        folk = Folk()
        for day, name in ((9, "zoe"), (3, "ann"), (9, "m"), (0, "abcdefghijkl")):
            self.assertIsNone(folk.come(name, day, 1))
        self.assertEqual(folk.names(), ["zoe", "ann", "m", "abcdefghijkl"])
        self.assertEqual([folk.came(name) for name in folk.names()], [9, 3, 9, 0])

    def test_forty_and_the_forty_first(self):
        folk = Folk()
        for place, name in enumerate(FORTY):
            folk.come(name, place, 1 + place)
        before = answers(folk, (0, 50))
        self.assert_refused(TooMany, folk.come, "zoe", 0, 1)
        self.assert_refused(TooMany, folk.come, "zoe", 9999, 1000)
        self.assert_refused(Taken, folk.come, FORTY[3], 0, 1)
        self.assert_refused(NoMeasure, folk.come, "zoe", -1, 1)
        self.assert_refused(NoName, folk.come, "Zoe", 0, 1)
        self.assertEqual(answers(folk, (0, 50)), before)
        self.assertEqual(folk.names(), FORTY)
        # Who is dead is one of the forty still.
        folk.die(FORTY[0], 50, FORTY[1])
        self.assert_refused(TooMany, folk.come, "zoe", 60, 1)

    def test_no_names(self):
        folk = some_folk()
        for name in ("", "A", "Ann", "ann ", " ann", "an n", "a1", "a_b", "a-b", "abcdefghijklm", "1", " ", "~", "a,"):
            self.assert_refused(NoName, folk.come, name, 0, 1)
            self.assert_refused(NoName, folk.come, name, -1, 0)
        self.assertEqual(folk.names(), ["ann", "bob", "cid"])

    def test_measures(self):
        for day, weight in itertools.product((0, 1, 9998, 9999), (1, 2, 999, 1000)):
            folk = Folk()
            folk.come("ann", day, weight)
            self.assertEqual((folk.came("ann"), folk.weight("ann", 9999)), (day, weight))
        folk = some_folk()
        for day in BAD_DAYS:
            self.assert_refused(NoMeasure, folk.come, "dan", day, 1)
            self.assert_refused(NoMeasure, folk.come, "ann", day, 1)
        for weight in BAD_WEIGHTS:
            self.assert_refused(NoMeasure, folk.come, "dan", 0, weight)
            self.assert_refused(NoMeasure, folk.come, "ann", 0, weight)
        self.assertEqual(folk.names(), ["ann", "bob", "cid"])

    def test_taken(self):
        folk = some_folk()
        before = answers(folk, range(12))
        for day in (0, 5, 6, 9999):
            self.assert_refused(Taken, folk.come, "ann", day, 7)
        folk.die("ann", 9, "bob")
        self.assert_refused(Taken, folk.come, "ann", 20, 7)
        self.assertEqual(answers(folk, range(9)), [row for row in before if len(row) == 2 or row[1] < 9])


class Weights(unittest.TestCase, Refusing):
    def weights(self, folk, name, days):
        return [folk.weight(name, day) for day in days]

    def test_from_the_coming_on(self):
        folk = some_folk()
        self.assertEqual(self.weights(folk, "ann", (5, 6, 100, 9999)), [10] * 4)
        self.assertEqual(self.weights(folk, "bob", (0, 1, 9999)), [20] * 3)

    def test_ahead_of_on_and_behind_a_rise(self):
        folk = some_folk()
        self.assertIsNone(folk.rise("ann", 8, 15))
        self.assertEqual(self.weights(folk, "ann", range(5, 11)), [10, 10, 10, 15, 15, 15])
        self.assertIsNone(folk.rise("ann", 10, 3))
        self.assertEqual(self.weights(folk, "ann", range(5, 13)), [10, 10, 10, 15, 15, 3, 3, 3])
        self.assertEqual(self.weights(folk, "bob", range(5, 13)), [20] * 8)

    def test_any_order_of_days(self):
        rises = [(6, 1), (8, 2), (8, 3), (5, 4), (11, 5)]
        for row in itertools.permutations(rises):
            folk = some_folk()
            slow = SlowFolk([("come", "ann", 5, 10)])
            for day, weight in row:
                folk.rise("ann", day, weight)
                slow.told.append(("rise", "ann", day, weight))
            for day in range(5, 14):
                self.assertEqual(folk.weight("ann", day), slow.weight("ann", day))

    def test_two_on_one_day(self):
        folk = some_folk()
        folk.rise("ann", 8, 15)
        folk.rise("ann", 7, 12)
        folk.rise("ann", 8, 14)
        self.assertEqual(self.weights(folk, "ann", (6, 7, 8, 9)), [10, 12, 14, 14])
        # The coming is told ahead of every rise of its day.
        folk.rise("ann", 5, 9)
        self.assertEqual(self.weights(folk, "ann", (5, 6, 7)), [9, 9, 12])
        folk.rise("ann", 5, 11)
        self.assertEqual(self.weights(folk, "ann", (5, 6, 7)), [11, 11, 12])

    def test_measures(self):
        folk = some_folk()
        for weight in (1, 1000, 2, 999):
            folk.rise("bob", 0, weight)
            self.assertEqual(folk.weight("bob", 0), weight)
        folk.rise("bob", 9999, 5)
        self.assertEqual(self.weights(folk, "bob", (9998, 9999)), [999, 5])
        before = answers(folk, range(12))
        for day in BAD_DAYS:
            self.assert_refused(NoMeasure, folk.rise, "bob", day, 1)
            self.assert_refused(NoMeasure, folk.rise, "zoe", day, 1)
            self.assert_refused(NoMeasure, folk.weight, "bob", day)
            self.assert_refused(NoMeasure, folk.weight, "zoe", day)
        for weight in BAD_WEIGHTS:
            self.assert_refused(NoMeasure, folk.rise, "bob", 3, weight)
            self.assert_refused(NoMeasure, folk.rise, "zoe", 3, weight)
        self.assertEqual(answers(folk, range(12)), before)

    def test_unknown(self):
        folk = some_folk()
        for name in ("zoe", "", "Ann", "ann ", "abcdefghijklm"):
            self.assert_refused(Unknown, folk.rise, name, 5, 1)
            self.assert_refused(Unknown, folk.weight, name, 0)
            self.assert_refused(Unknown, folk.came, name)

    def test_not_yet(self):
        folk = some_folk()
        for day in (0, 3, 4):
            self.assert_refused(NotYet, folk.rise, "ann", day, 1)
            self.assert_refused(NotYet, folk.weight, "ann", day)
        self.assertEqual(folk.weight("ann", 5), 10)
        folk.rise("ann", 5, 1)
        self.assertEqual(folk.weight("ann", 5), 1)

    def test_the_dead(self):
        folk = some_folk()
        folk.rise("ann", 30, 17)
        folk.die("ann", 20, "bob")
        for day in (20, 21, 30, 9999):
            self.assert_refused(Dead, folk.rise, "ann", day, 1)
        self.assert_refused(NotYet, folk.rise, "ann", 4, 1)
        # A weight may be asked of the dead, and a rise told of a day ahead of the death.
        folk.rise("ann", 19, 12)
        self.assertEqual(self.weights(folk, "ann", (18, 19, 20, 29, 30)), [10, 12, 12, 12, 17])


class Deaths(unittest.TestCase, Refusing):
    def test_around_a_death(self):
        folk = some_folk()
        self.assertIsNone(folk.die("ann", 20, "bob"))
        self.assertEqual([folk.dead("ann", day) for day in (0, 4, 5, 19, 20, 21, 9999)], [False] * 4 + [True] * 3)
        self.assertEqual(
            [folk.stands_for("ann", day) for day in (0, 4, 5, 19, 20, 21, 9999)], ["ann"] * 4 + ["bob"] * 3
        )
        for day in (0, 19, 20, 9999):
            self.assertIs(folk.dead("bob", day), False)
            self.assertEqual(folk.stands_for("bob", day), "bob")
        self.assertEqual(folk.names(), ["ann", "bob", "cid"])
        self.assertEqual(folk.came("ann"), 5)

    def test_on_the_day_of_coming_and_on_the_last_day(self):
        folk = some_folk()
        folk.die("bob", 9, "cid")
        folk.die("cid", 9, "ann")
        self.assertEqual([folk.stands_for("bob", day) for day in (8, 9, 10)], ["bob", "ann", "ann"])
        self.assertEqual([folk.stands_for("cid", day) for day in (8, 9, 10)], ["cid", "ann", "ann"])
        folk = some_folk()
        folk.die("ann", 9999, "bob")
        self.assertEqual([folk.stands_for("ann", day) for day in (9998, 9999)], ["ann", "bob"])

    def test_an_heir_dies_later_earlier_or_on_the_same_day(self):
        for day in (10, 15, 19, 20, 21, 30):
            folk = some_folk()
            folk.die("ann", 20, "bob")
            folk.die("bob", day, "cid")
            for asked in range(5, 40):
                heir = "cid" if asked >= day else "bob"
                self.assertEqual(folk.stands_for("ann", asked), "ann" if asked < 20 else heir)
                self.assertEqual(folk.stands_for("bob", asked), heir)
                self.assertEqual(folk.stands_for("cid", asked), "cid")

    def test_lines_of_forty_heirs(self):
        for days in ([50] * 39, range(50, 89), range(89, 50, -1), [50 + place * 7 % 13 for place in range(39)]):
            folk = Folk()
            slow = SlowFolk()
            for place, name in enumerate(FORTY):
                folk.come(name, place, 1)
                slow.told.append(("come", name, place, 1))
            for place, day in enumerate(days):
                folk.die(FORTY[place], day, FORTY[place + 1])
                slow.told.append(("die", FORTY[place], day, FORTY[place + 1]))
            for name in FORTY[:3] + FORTY[20:22] + FORTY[-2:]:
                for day in range(48, 92):
                    self.assertEqual(folk.stands_for(name, day), slow.stands_for(name, day))
            self.assertEqual(folk.stands_for(FORTY[0], 9999), FORTY[-1])

    def test_several_leave_to_one(self):
        folk = some_folk()
        folk.die("ann", 20, "cid")
        folk.die("bob", 30, "cid")
        self.assertEqual([folk.stands_for(name, 30) for name in ("ann", "bob", "cid")], ["cid"] * 3)

    def test_measures(self):
        folk = some_folk()
        for day in BAD_DAYS:
            self.assert_refused(NoMeasure, folk.die, "ann", day, "bob")
            self.assert_refused(NoMeasure, folk.die, "zoe", day, "zoe")
            for question in (folk.dead, folk.stands_for):
                self.assert_refused(NoMeasure, question, "ann", day)
                self.assert_refused(NoMeasure, question, "zoe", day)
        self.assertIs(folk.dead("ann", 9999), False)
        self.assertIs(folk.dead("ann", 0), False)

    def test_unknown(self):
        folk = some_folk()
        self.assert_refused(Unknown, folk.die, "zoe", 20, "ann")
        self.assert_refused(Unknown, folk.die, "ann", 20, "zoe")
        self.assert_refused(Unknown, folk.die, "ann", 0, "zoe")
        self.assert_refused(Unknown, folk.die, "zoe", 20, "zoe")
        self.assert_refused(Unknown, folk.die, "ann", 20, "")
        for question in (folk.dead, folk.stands_for):
            self.assert_refused(Unknown, question, "zoe", 0)
            self.assert_refused(Unknown, question, "", 9999)

    def test_not_yet(self):
        folk = some_folk()
        self.assert_refused(NotYet, folk.die, "ann", 4, "bob")
        self.assert_refused(NotYet, folk.die, "bob", 8, "cid")
        self.assert_refused(NotYet, folk.die, "ann", 4, "ann")
        folk.die("bob", 9, "cid")
        # Dead and NoHeir come behind NotYet.
        self.assert_refused(NotYet, folk.die, "bob", 8, "cid")
        self.assert_refused(NotYet, folk.die, "cid", 8, "bob")

    def test_dead(self):
        folk = some_folk()
        folk.die("ann", 20, "bob")
        for day in (5, 19, 20, 21, 9999):
            self.assert_refused(Dead, folk.die, "ann", day, "bob")
            self.assert_refused(Dead, folk.die, "ann", day, "ann")
        folk.die("bob", 30, "cid")
        self.assert_refused(Dead, folk.die, "ann", 19, "bob")
        self.assertEqual(folk.stands_for("ann", 19), "ann")
        self.assertEqual(folk.stands_for("ann", 30), "cid")

    def test_no_heir(self):
        folk = some_folk()
        self.assert_refused(NoHeir, folk.die, "ann", 20, "ann")
        folk.die("ann", 20, "bob")
        for day in (9, 19, 20, 21):
            self.assert_refused(NoHeir, folk.die, "bob", day, "ann")
            self.assert_refused(NoHeir, folk.die, "cid", day, "ann")
        self.assertIs(folk.dead("bob", 9999), False)


class Together(unittest.TestCase, Refusing):
    def test_made_deeds_against_the_words(self):
        seen = []
        names = ["ann", "bob", "cid", "dan", "eve", "Fay"]
        for seed in range(120):
            chance = random.Random(seed)
            folk = Folk()
            slow = SlowFolk()
            for turn in range(60):
                deed = made_deed(chance, names, (-1, 0, 0, 0, 3, 3, 4, 5, 6, 7, 7, 7, 9999, 10000))
                if chance.random() < 0.1 and deed[0] != "die":
                    deed = deed[:3] + (chance.choice((0, 1, 1000, 1001)),)
                refusal = slow.refusal(deed)
                seen.append((deed[0], refusal))
                if refusal is None:
                    self.assertIsNone(do(folk, deed))
                    slow.told.append(deed)
                else:
                    self.assert_refused(getattr(errors, refusal), do, folk, deed)
                if turn % 9 == 0 or refusal is not None and turn % 4 == 0:
                    self.assertEqual(answers(folk, (0, 2, 4, 6, 9999)), answers(slow, (0, 2, 4, 6, 9999)))
            self.assertEqual(answers(folk, (0, 3, 4, 5, 6, 7, 8)), answers(slow, (0, 3, 4, 5, 6, 7, 8)))
        for word, refusals in (
            ("come", (None, "NoName", "NoMeasure", "Taken")),
            ("rise", (None, "NoMeasure", "Unknown", "NotYet", "Dead")),
            ("die", (None, "NoMeasure", "Unknown", "NotYet", "Dead", "NoHeir")),
        ):
            for refusal in refusals:
                self.assertGreater(seen.count((word, refusal)), 9, (word, refusal))

    def test_a_refused_deed_changes_nothing(self):
        folk = some_folk()
        folk.rise("ann", 7, 12)
        folk.die("cid", 15, "bob")
        days = tuple(range(20)) + (9999,)
        before = answers(folk, days)
        for refusal, deed in (
            (NoName, ("come", "Dan", 3, 4)), (NoMeasure, ("come", "dan", 10000, 4)), (NoMeasure, ("come", "dan", 3, 0)),
            (Taken, ("come", "ann", 3, 4)), (NoMeasure, ("rise", "ann", 8, 1001)), (Unknown, ("rise", "dan", 8, 4)),
            (NotYet, ("rise", "ann", 4, 4)), (Dead, ("rise", "cid", 15, 4)), (NoMeasure, ("die", "ann", -1, "bob")),
            (Unknown, ("die", "ann", 8, "dan")), (NotYet, ("die", "ann", 4, "bob")), (Dead, ("die", "cid", 9, "bob")),
            (NoHeir, ("die", "ann", 8, "ann")), (NoHeir, ("die", "ann", 16, "cid")),
        ):
            self.assert_refused(refusal, do, folk, deed)
            self.assertEqual(answers(folk, days), before, deed)

    def test_questions_change_nothing(self):
        folk = some_folk()
        before = answers(folk, range(12))
        for call in (lambda: folk.weight("ann", 4), lambda: folk.weight("zoe", 4), lambda: folk.dead("ann", -1),
                     lambda: folk.stands_for("zoe", 4), lambda: folk.came("zoe")):
            with self.assertRaises(errors.MootError):
                call()
        self.assertEqual(answers(folk, range(12)), before)

    def test_told_lists_are_new(self):
        folk = some_folk()
        told = folk.names()
        told.append("zoe")
        told.reverse()
        self.assertEqual(folk.names(), ["ann", "bob", "cid"])
        self.assert_refused(Unknown, folk.came, "zoe")

    def test_two_folks_know_nothing_of_one_another(self):
        one, other = Folk(), Folk()
        one.come("ann", 0, 1)
        self.assertEqual(other.names(), [])


class Twins(unittest.TestCase, Refusing):
    def test_a_twin_knows_the_same(self):
        for folk in (Folk(), some_folk()):
            twin = folk.twin()
            self.assertIsInstance(twin, Folk)
            self.assertIsNot(twin, folk)
            self.assertEqual(answers(twin, range(12)), answers(folk, range(12)))

    def test_twins_go_apart(self):
        days = tuple(range(14)) + (9999,)
        for deed in (("come", "dan", 3, 4), ("rise", "ann", 8, 4), ("rise", "ann", 5, 4), ("die", "ann", 8, "bob"),
                     ("die", "bob", 9, "cid")):
            for told_to_twin in (False, True):
                folk = some_folk()
                folk.rise("ann", 6, 7)
                twin = folk.twin()
                before = answers(folk, days)
                changed, other = (twin, folk) if told_to_twin else (folk, twin)
                do(changed, deed)
                self.assertEqual(answers(other, days), before)
                self.assertNotEqual(answers(changed, days), before)
                do(other, deed)
                self.assertEqual(answers(other, days), answers(changed, days))

    def test_made_twins(self):
        names = ["ann", "bob", "cid", "dan", "eve"]
        for seed in range(40):
            chance = random.Random(seed)
            pairs = [(Folk(), SlowFolk())]
            for turn in range(60):
                folk, slow = chance.choice(pairs)
                if chance.random() < 0.1:
                    pairs.append((folk.twin(), SlowFolk(slow.told)))
                deed = made_deed(chance, names, (0, 3, 4, 5, 6, 7))
                if slow.refusal(deed) is None:
                    do(folk, deed)
                    slow.told.append(deed)
            for folk, slow in pairs:
                self.assertEqual(answers(folk, range(9)), answers(slow, range(9)))

    def test_a_twin_of_forty(self):
        folk = Folk()
        for name in FORTY[:39]:
            folk.come(name, 0, 1)
        twin = folk.twin()
        twin.come("zoe", 0, 1)
        self.assert_refused(TooMany, twin.come, "yan", 0, 1)
        folk.come("yan", 0, 1)
        self.assert_refused(Unknown, folk.came, "zoe")
