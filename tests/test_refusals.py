"""[17]: the refusals of a moot's deeds and questions, and the first of several that are due; [2]: all measures."""

import itertools
import unittest

from forsworn import errors
from forsworn.deeds import done
from forsworn.errors import (
    Broken, Dead, Forsworn, MootError, NoCase, NoHeir, NoMeasure, NoMoment, NoName, NoOath, NoThing, NotYet,
    SwornTwice, Taken, TooLight, TooMany, Unknown,
)
from forsworn.known import moved, turned
from forsworn.moot import Moot
from tests.helper import (
    ARGUMENTS, FAR, FORTY, FREE, QUESTIONS, REFUSALS, TRIED, Refusing, SlowMoot, all_told, answer, moot_of,
)

# Day 0: ann, bob, per and fourteen more; lat comes on day 50; ded is dead from day 30 on. per is forsworn.
FOURTEEN = FORTY[:14]
PREPARED = [("come", name, 0, 10) for name in ["ann", "bob", "per", "ded"] + FOURTEEN] + [
    ("come", "lat", 50, 10), ("die", "ded", 30, "ann"), ("bring", "ann", 2), ("bring", "ann", 60),
    ("wergild", "ann", "bob", 5, 10, 5, ["ann", "bob"], ["per"]), ("accuse", 0, "per", 12, 5, ["bob"], []),
    ("wergild", "ann", "bob", 5, 70, 5, ["ann", "bob"], []),
]

# For each argument a good value and others; where two faults lie within one argument, that is a value as well.
PERSON = ("ann", "zoe", "lat", "ded", "Ann", "")
DAY = (40, 5, 80, -1, 10000)
NEED = (5, 0, 12001, 12000)
MANY = (5, 0, 1000001)
THING = (0, 1, -1, 2)
ONES = (
    ["ann"], [], ["zoe"], ["ann", "lat"], ["ann", "ded"], ["ann", "per"], ["ann", "ann"], ["ann", "per", "ann"],
    ["per", "per"],
)
OTHERS = (
    [], ["zoe"], ["lat"], ["ded"], ["per"], ["bob", "bob"], ["per", "zoe"], ["zoe", "zoe"], ["lat", "lat"],
    ["ded", "ded"], ["lat", "ded"], ["lat", "per"], ["ded", "per"], FOURTEEN[:12], FOURTEEN[:13],
    FOURTEEN[:12] + ["aa"], FOURTEEN[:12] + ["per"], FOURTEEN[:12] + ["zoe"], FOURTEEN[:12] + ["lat"],
    FOURTEEN[:12] + ["ded"], ["per", "bob", "bob"],
)
OFFERED = {
    "come": (("cid", "ann", "ded", "Cid", "abcdefghijklm"), (40, -1, 10000), (7, 0, 1001)),
    "rise": (PERSON, DAY, (7, 0, 1001)),
    "die": (PERSON, DAY, ("bob", "zoe", "lat", "ded", "ann")),
    "penance": (PERSON,),
    "bring": (PERSON, DAY),
    "give": (THING, PERSON, ("bob", "zoe", "lat", "ded"), DAY),
    "pay": (PERSON, ("bob", "zoe", "lat", "ded"), MANY, DAY),
    "claim": (PERSON, THING, DAY, NEED, ONES, OTHERS),
    "wergild": (PERSON, ("bob", "zoe", "lat", "ded"), MANY, DAY, NEED, ONES, OTHERS),
    "accuse": ((0, 2, 1, -1, 3), ("ann", "per", "bob", "zoe", "lat", ""), DAY, NEED, ONES, OTHERS),
}
OF_CASES = ("NoMeasure", "Unknown", "NotYet", "Dead", "TooMany", "SwornTwice", "Forsworn", "TooLight")
POSSIBLE = {
    "come": ("NoName", "NoMeasure", "Taken", "TooMany"),
    "rise": ("NoMeasure", "Unknown", "NotYet", "Dead", "TooMany"),
    "die": ("NoMeasure", "Unknown", "NotYet", "Dead", "NoHeir", "TooMany"),
    "penance": ("Unknown", "Dead", "TooMany"),
    "bring": ("NoMeasure", "Unknown", "NotYet", "Dead", "TooMany"),
    "give": ("NoMeasure", "Unknown", "NoThing", "NotYet", "Dead", "TooMany"),
    "pay": ("NoMeasure", "Unknown", "NotYet", "Dead", "TooMany"),
    "claim": OF_CASES + ("NoThing",),
    "wergild": OF_CASES,
    "accuse": OF_CASES + ("NoCase", "NoOath", "Broken"),
}
# Of one name or one number two refusals can't be due at once.
IMPOSSIBLE = {
    "come": ({"NoName", "Taken"},),
    "rise": ({"Unknown", "NotYet"}, {"Unknown", "Dead"}, {"NotYet", "Dead"}),
    "penance": ({"Unknown", "Dead"},),
    "bring": ({"Unknown", "NotYet"}, {"Unknown", "Dead"}, {"NotYet", "Dead"}),
    "accuse": ({"NoCase", "NoOath"}, {"NoCase", "Broken"}, {"NoOath", "Broken"}),
}


def deeds_with_faults(word):
    """The good deed, and all in which one argument or two are other ones."""
    offered = OFFERED[word]
    places = range(len(offered))
    for first, second in itertools.combinations_with_replacement(places, 2):
        for one, other in itertools.product(offered[first], offered[second]):
            if first != second or one == other:
                arguments = [values[0] for values in offered]
                arguments[first] = one
                arguments[second] = other
                yield (word,) + tuple(arguments)


def full_of_moments(deeds):
    return deeds + [("pay", "ann", "bob", 1, 1)] * (400 - len(deeds))


class Refused(unittest.TestCase, Refusing):
    def held_against_the_words(self, told, words=tuple(ARGUMENTS)):
        """Tries all deeds with faults on a moot; tells by word the sets of refusals that were due."""
        slow = SlowMoot(told)
        moot = moot_of(told)
        seen = {word: [] for word in words}
        for word in words:
            for deed in deeds_with_faults(word):
                due = slow.due(deed)
                if due:
                    first = next(name for name in REFUSALS if name in due)
                    self.assert_refused(getattr(errors, first), done, moot, deed)
                else:
                    done(moot.twin(), deed)
                seen[word].append(frozenset(due))
        self.assertEqual(moot.roll(), told)
        return seen


class PairByPair(Refused):
    def test_each_refusal_and_the_first_of_two(self):
        seen = self.held_against_the_words(PREPARED)
        full = self.held_against_the_words(full_of_moments(PREPARED))
        for word, possible in POSSIBLE.items():
            sets = set(seen[word] + full[word])
            self.assertIn(frozenset(), sets)
            for one in possible:
                self.assertIn(frozenset([one]), sets, (word, one))
            for pair in itertools.combinations(possible, 2):
                if set(pair) not in IMPOSSIBLE.get(word, ()):
                    self.assertIn(frozenset(pair), sets, (word, pair))

    def test_no_room_for_things_cases_and_folk(self):
        things = PREPARED + [("bring", "ann", 3)] * 38
        self.held_against_the_words(things, ("bring", "give"))
        cases = PREPARED + [("wergild", "ann", "bob", 5, 10, 5, ["ann"], [])] * 57
        self.held_against_the_words(cases, TRIED)
        folk = PREPARED + [("come", name, 0, 10) for name in FORTY[14:35]]
        self.assertEqual(len(moot_of(folk).names()), 40)
        self.held_against_the_words(folk, ("come", "rise", "die"))


class Measures(unittest.TestCase, Refusing):
    BOUNDS = {"day": (0, 9999), "weight": (1, 1000), "need": (1, 12000), "many": (1, 1000000)}

    def moot(self):
        """Thirteen folk of 1000 each, so that a need of 12000 is reached."""
        deeds = [("come", name, 0, 1000) for name in FOURTEEN[:13]] + [("bring", "aa", 0)]
        return moot_of(deeds + [("wergild", "aa", "ab", 1, 0, 1, ["bc"], [])])

    def good(self):
        return {
            "name": "aa", "heir": "ab", "giver": "aa", "taker": "ab", "payer": "aa", "claimer": "aa",
            "answerer": "ab", "accused": "bc", "day": 7, "weight": 7, "need": 12000, "many": 7, "case": 0, "thing": 0,
            "ones": FOURTEEN[:12], "others": [],
        }

    def test_the_bounds_and_one_beyond_them(self):
        for word, keys in ARGUMENTS.items():
            for key in [key for key in keys if key in self.BOUNDS]:
                low, high = self.BOUNDS[key]
                for value in (low, low + 1, high - 1, high, low - 1, high + 1, -5, 2 * high, FAR, -FAR):
                    good = dict(self.good(), **{key: value})
                    if word == "come":
                        good["name"] = "zed"
                    deed = (word,) + tuple(good[one] for one in keys)
                    moot = self.moot()
                    now = moot.now()
                    if low <= value <= high:
                        done(moot, deed)
                        self.assertEqual(moot.now(), now + 1)
                        self.assertEqual(moot.roll()[-1], deed)
                    else:
                        self.assert_refused(NoMeasure, done, moot, deed)
                        self.assertEqual(moot.now(), now)

    def test_a_need_that_is_reached_and_one_that_is_not(self):
        moot = self.moot()
        self.assertEqual(moot.claim("aa", 0, 5, 12000, FOURTEEN[:12], []), 1)
        self.assert_refused(TooLight, moot.claim, "aa", 0, 5, 12000, FOURTEEN[:11], [])
        self.assertEqual(moot.claim("aa", 0, 5, 11000, FOURTEEN[:11], []), 2)

    def test_questions(self):
        moot = self.moot()
        for question, keys in QUESTIONS.items():
            if "day" in keys:
                good = {"name": "aa", "thing": 0}
                for day in (0, 1, 9998, 9999):
                    getattr(moot, question)(*[dict(good, day=day)[key] for key in keys])
                for day in (-1, -9999, -FAR, 10000, 10001, FAR):
                    for other in (good, {"name": "zoe", "thing": 1}, {"name": "", "thing": -1}):
                        arguments = [dict(other, day=day)[key] for key in keys]
                        self.assert_refused(NoMeasure, getattr(moot, question), *arguments)


class Numbers(unittest.TestCase, Refusing):
    def test_things(self):
        moot = moot_of(PREPARED)
        for thing in (-1, -2, -FAR, 2, 3, 40, FAR):
            self.assert_refused(NoThing, moot.give, thing, "ann", "bob", 80)
            self.assert_refused(NoThing, moot.claim, "ann", thing, 80, 5, ["ann"], [])
            for day in (0, 1, 80, 9999):
                self.assert_refused(NoThing, moot.holder, thing, day)
                self.assert_refused(NoThing, moot.road, thing, day)
        self.assert_refused(NoThing, Moot().holder, 0, 0)
        moot.give(1, "ann", "bob", 80)
        moot.claim("ann", 1, 80, 5, ["ann"], [])

    def test_cases(self):
        for moot in (moot_of(PREPARED), moot_of(PREPARED[:19])):
            for case in (-1, -2, -3, -FAR, moot.cases(), 60, FAR):
                self.assert_refused(NoCase, moot.accuse, case, "ann", 80, 5, ["ann"], [])
                self.assert_refused(NoCase, moot.breakers, case, "ann")
                self.assert_refused(NoCase, moot.breakers, case, "zoe")
                for question in (moot.stands, moot.margin, moot.chain, moot.bearing, moot.paper, moot.fewest):
                    self.assert_refused(NoCase, question, case)

    def test_moments(self):
        moot = moot_of(PREPARED)
        for moment in (-1, -2, -FAR, moot.now() + 1, 400, 401, FAR):
            self.assert_refused(NoMoment, moot.then, moment)
            self.assert_refused(NoMoment, turned, moot, moment)
            self.assert_refused(NoMoment, moved, moot, 9, moment)
            for day in (-1, 10000, FAR, -FAR):
                self.assert_refused(NoMeasure, moved, moot, day, moment)
        for day in (-1, 10000, FAR, -FAR):
            for moment in (0, 5, moot.now()):
                self.assert_refused(NoMeasure, moved, moot, day, moment)
            self.assert_refused(NoMeasure, moved, Moot(), day, 0)
        self.assert_refused(NoMoment, Moot().then, 1)
        self.assert_refused(NoMoment, turned, Moot(), 1)


class Room(unittest.TestCase, Refusing):
    def test_the_forty_first_of_the_folk(self):
        moot = Moot()
        for name in FORTY:
            moot.come(name, 0, 1)
        self.assert_refused(TooMany, moot.come, "zoe", 0, 1)
        self.assert_refused(Taken, moot.come, "aa", 0, 1)
        self.assertEqual([moot.now(), moot.names()], [40, FORTY])

    def test_the_forty_first_of_the_things(self):
        moot = moot_of([("come", "ann", 3, 1)])
        self.assertEqual([moot.bring("ann", 3) for turn in range(40)], list(range(40)))
        self.assert_refused(TooMany, moot.bring, "ann", 3)
        self.assert_refused(NotYet, moot.bring, "ann", 2)
        self.assertEqual([moot.things(), moot.now()], [40, 41])
        moot.give(39, "ann", "ann", 3)

    def test_the_sixty_first_case(self):
        moot = moot_of([("come", "ann", 0, 1), ("come", "bob", 0, 1), ("bring", "ann", 0)])
        for case in range(0, 60, 3):
            moot.claim("ann", 0, 1, 1, ["ann"], ["bob"])
            moot.wergild("ann", "ann", 1, 1, 1, ["ann"], ["bob"])
            moot.accuse(case, "bob", 1, 1, ["ann"], ["bob"])
        self.assertEqual(moot.cases(), 60)
        self.assert_refused(TooMany, moot.claim, "ann", 0, 1, 1, ["ann"], [])
        self.assert_refused(TooMany, moot.wergild, "ann", "ann", 1, 1, 1, ["ann"], [])
        self.assert_refused(TooMany, moot.accuse, 0, "ann", 1, 1, ["ann"], [])
        moot.pay("ann", "bob", 1, 1)
        self.assertEqual([moot.cases(), moot.now()], [60, 64])

    def test_a_side_of_thirteen(self):
        moot = moot_of([("come", name, 0, 1) for name in FORTY[:26]] + [("bring", "aa", 0)])
        many, more = FORTY[:13], FORTY[13:26]
        for ones, others in ((many, []), (many, more), (["aa"], more), (many[:12], more), (many, more[:12])):
            self.assert_refused(TooMany, moot.claim, "aa", 0, 1, 1, ones, others)
            self.assert_refused(TooMany, moot.wergild, "aa", "ab", 1, 1, 1, ones, others)
        moot.claim("aa", 0, 1, 12, many[:12], more[:12])
        for ones, others in ((many, []), (["aa"], more)):
            self.assert_refused(TooMany, moot.accuse, 0, "aa", 1, 1, ones, others)
        moot.accuse(0, "ac", 1, 12, many[:12], more[:12])
        moot.wergild("aa", "ab", 1, 1, 12, many[:12], more[:12])

    def test_the_four_hundred_and_first_moment(self):
        moot = moot_of(full_of_moments(PREPARED)[:-1])
        self.assertEqual(moot.now(), 399)
        self.assert_refused(Unknown, moot.penance, "zoe")
        moot.penance("ann")
        self.assertEqual(moot.now(), 400)
        before = all_told(moot, (5, 9, 12, 80))
        for deed in (("come", "cid", 0, 1), ("rise", "ann", 9, 1), ("die", "ann", 9, "bob"), ("penance", "per"),
                     ("bring", "ann", 9), ("give", 0, "ann", "bob", 9), ("pay", "ann", "bob", 1, 9),
                     ("claim", "ann", 0, 9, 1, ["ann"], []), ("wergild", "ann", "bob", 1, 9, 1, ["ann"], []),
                     ("accuse", 0, "ann", 10, 1, ["bob"], [])):
            self.assert_refused(TooMany, done, moot, deed)
            self.assertEqual(all_told(moot, (5, 9, 12, 80)), before, deed)
            one_less = moot.then(399)
            done(one_less, deed)
            self.assertNotEqual(all_told(one_less, (5, 9, 12, 80)), before, deed)
        self.assertEqual([moot.then(400).now(), moot.twin().now()], [400, 400])
        self.assert_refused(NoMoment, moot.then, 401)


class AsItIsKnown(unittest.TestCase, Refusing):
    def test_dead(self):
        moot = moot_of(PREPARED)
        moot.give(0, "bob", "ann", 20)
        moot.die("bob", 15, "ann")
        for day, refused in ((14, False), (15, True), (20, True)):
            for deed in (("rise", "bob", day, 9), ("bring", "bob", day), ("give", 0, "bob", "ann", day),
                         ("give", 0, "ann", "bob", day), ("pay", "bob", "ann", 1, day), ("pay", "ann", "bob", 1, day),
                         ("claim", "bob", 0, day, 1, ["ann"], []), ("claim", "ann", 0, day, 1, ["bob"], []),
                         ("claim", "ann", 0, day, 1, ["ann"], ["bob"]),
                         ("wergild", "bob", "ann", 1, day, 1, ["ann"], []),
                         ("wergild", "ann", "bob", 1, day, 1, ["ann"], []),
                         ("wergild", "ann", "ann", 1, day, 1, ["ann"], ["bob"]),
                         ("accuse", 0, "ann", day, 1, ["bob"], []),
                         ("accuse", 0, "ann", day, 1, ["ann"], ["bob"])):
                if refused:
                    self.assert_refused(Dead, done, moot, deed)
                else:
                    done(moot.twin(), deed)
        # What was granted ahead of the death's telling stays.
        self.assertEqual(moot.roll()[-2], ("give", 0, "bob", "ann", 20))
        for word in ("penance", "die"):
            deed = (word, "bob") + ((3, "ann") if word == "die" else ())
            self.assert_refused(Dead, done, moot, deed)

    def test_the_accused_may_be_dead_and_the_heir_may_die_on_a_later_day(self):
        moot = moot_of(PREPARED)
        moot.die("ann", 30, "bob")
        self.assertEqual(moot.accuse(0, "ann", 40, 1, ["bob"], []), 3)
        self.assert_refused(NoHeir, moot.die, "bob", 20, "ann")
        self.assert_refused(NoHeir, moot.die, "aa", 20, "ann")
        self.assert_refused(NoHeir, moot.die, "aa", 20, "ded")
        self.assert_refused(NoHeir, moot.die, "aa", 20, "aa")
        moot.die("bob", 10, "per")

    def test_the_accused_may_come_later_than_the_deed(self):
        # The accused swears in the accused case, so only that case's day bounds the accusing.
        moot = moot_of(PREPARED)
        case = moot.wergild("ann", "ann", 1, 55, 1, ["lat"], [])
        self.assert_refused(NotYet, moot.accuse, case, "lat", 54, 1, ["ann"], [])
        moot.accuse(case, "lat", 55, 1, ["ann"], [])


class Oaths(unittest.TestCase, Refusing):
    def test_a_name_that_does_not_swear_in_the_accused_case(self):
        moot = moot_of(PREPARED)
        for case, name in ((0, "aa"), (0, "zoe"), (0, ""), (1, "ann"), (1, "per"), (2, "per"), (0, "lat"), (0, "ded")):
            self.assert_refused(NoOath, moot.accuse, case, name, 80, 1, ["ann"], [])
            self.assert_refused(NoOath, moot.breakers, case, name)
        for case, name in ((0, "ann"), (0, "bob"), (1, "bob"), (2, "ann")):
            moot.twin().accuse(case, name, 80, 1, ["ann"], [])
            self.assertEqual(moot.breakers(case, name), [])
        self.assertEqual(moot.breakers(0, "per"), [1])

    def test_broken(self):
        moot = moot_of(PREPARED)
        self.assert_refused(Broken, moot.accuse, 0, "per", 80, 1, ["ann"], [])
        # The breaker falls, and the oath may be accused again; then it stands again, with two breakers.
        moot.accuse(1, "bob", 80, 1, ["ann"], [])
        self.assertEqual(moot.accuse(0, "per", 80, 1, ["aa"], []), 4)
        self.assert_refused(Broken, moot.accuse, 0, "per", 80, 1, ["aa"], [])
        moot.accuse(3, "ann", 80, 1, ["aa"], [])
        self.assertEqual(moot.breakers(0, "per"), [1, 4])

    def test_an_accusing_that_falls_leaves_the_oath_free(self):
        moot = moot_of(PREPARED)
        self.assertEqual(moot.accuse(0, "ann", 80, 1, ["aa"], ["ab"]), 3)
        self.assertEqual(moot.accuse(0, "ann", 80, 1, ["aa"], []), 4)
        self.assert_refused(Broken, moot.accuse, 0, "ann", 80, 1, ["aa"], [])

    def test_sworn_twice(self):
        moot = moot_of(PREPARED)
        for ones, others in ((["ann", "ann"], []), (["ann"], ["ann"]), (["ann"], ["bob", "bob"]),
                             (["ann", "bob"], ["aa", "bob"])):
            self.assert_refused(SwornTwice, moot.claim, "ann", 0, 80, 12000, ones, others)
            self.assert_refused(SwornTwice, moot.wergild, "ann", "bob", 1, 80, 12000, ones, others)
            self.assert_refused(SwornTwice, moot.accuse, 0, "per", 80, 12000, ones, others)
        # Who claims or answers may swear.
        moot.wergild("ann", "bob", 1, 80, 1, ["ann"], ["bob"])

    def test_too_light(self):
        moot = moot_of(PREPARED)
        for need, ones in ((11, ["ann"]), (1, []), (21, ["ann", "bob"]), (12000, FOURTEEN[:12])):
            self.assert_refused(TooLight, moot.claim, "ann", 0, 80, need, ones, [])
            self.assert_refused(TooLight, moot.wergild, "ann", "bob", 1, 80, need, ones, ["aa"] * (need == 11))
            self.assert_refused(TooLight, moot.accuse, 0, "per", 80, need, ones, [])
        # The others do not count for it.
        moot.claim("ann", 0, 80, 10, ["ann"], ["bob", "aa", "ab"])

    def test_forsworn(self):
        moot = moot_of(PREPARED)
        for ones, others in ((["per"], []), (["ann"], ["per"])):
            self.assert_refused(Forsworn, moot.claim, "ann", 0, 80, 12000, ones, others)
            self.assert_refused(Forsworn, moot.wergild, "ann", "bob", 1, 80, 12000, ones, others)
            self.assert_refused(Forsworn, moot.accuse, 0, "per", 80, 12000, ones, others)


class Questions(unittest.TestCase, Refusing):
    def test_all_questions_with_names_and_numbers_that_are_there_or_not(self):
        for told in ([], PREPARED[:5], PREPARED):
            days = (0, 5, 29, 30, 49, 50, 80)
            self.assertEqual(
                all_told(moot_of(told), days, leave=FREE), all_told(SlowMoot(told), days, leave=FREE)
            )

    def test_unknown(self):
        moot = moot_of(PREPARED)
        for name in ("zoe", "Ann", "", "abcdefghijklm", "ann "):
            self.assert_refused(Unknown, moot.forsworn, name)
            for question in (moot.weight, moot.dead, moot.stands_for, moot.holds, moot.balance):
                for day in (0, 30, 9999):
                    self.assert_refused(Unknown, question, name, day)

    def test_only_a_weight_is_refused_ahead_of_the_coming(self):
        moot = moot_of(PREPARED)
        for day in (0, 1, 49):
            self.assert_refused(NotYet, moot.weight, "lat", day)
            told = [moot.dead("lat", day), moot.stands_for("lat", day), moot.holds("lat", day), moot.balance("lat", day)]
            self.assertEqual(told, [False, "lat", [], 0])
        self.assertEqual([moot.holder(1, 59), moot.road(1, 59), moot.weight("lat", 50)], [None, [], 10])

    def test_each_is_of_its_own_class(self):
        raised = {
            NoName: lambda moot: moot.come("Ann", 0, 1), NoMeasure: lambda moot: moot.owed(-1),
            Unknown: lambda moot: moot.forsworn("zoe"), Taken: lambda moot: moot.come("ann", 0, 1),
            NoThing: lambda moot: moot.road(2, 0), NoCase: lambda moot: moot.stands(3),
            NoOath: lambda moot: moot.breakers(0, "aa"), NotYet: lambda moot: moot.weight("lat", 3),
            Dead: lambda moot: moot.penance("ded"), NoHeir: lambda moot: moot.die("ann", 9, "ded"),
            TooMany: lambda moot: moot.claim("ann", 0, 9, 1, FOURTEEN, []),
            SwornTwice: lambda moot: moot.claim("ann", 0, 9, 1, ["ann", "ann"], []),
            Forsworn: lambda moot: moot.claim("ann", 0, 9, 1, ["per"], []),
            TooLight: lambda moot: moot.claim("ann", 0, 9, 1, [], []),
            Broken: lambda moot: moot.accuse(0, "per", 80, 1, ["ann"], []),
            NoMoment: lambda moot: moot.then(-1),
        }
        moot = moot_of(PREPARED)
        for refusal, call in raised.items():
            with self.assertRaises(MootError) as caught:
                call(moot)
            self.assertIsInstance(caught.exception, ValueError)
            kinds = [name for name in REFUSALS if isinstance(caught.exception, getattr(errors, name))]
            self.assertEqual(kinds, [refusal.__name__])
        self.assertEqual(answer(moot, "now", ()), len(PREPARED))
