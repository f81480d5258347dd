"""What several tests use: suits and deeds made by a seed, and slow answers straight from the document's words."""

import itertools
import random
import re

from forsworn.deeds import done
from forsworn.errors import MootError
from forsworn.moot import Moot

REFUSALS = (
    "NoName", "NoMeasure", "Unknown", "Taken", "NoThing", "NoCase", "NoOath", "NotYet", "Dead", "NoHeir",
    "TooMany", "SwornTwice", "Forsworn", "TooLight", "Broken", "NoMoment", "NothingBack", "NothingForth", "NoDeed",
)
LETTERS = "abcdefghijklmnopqrstuvwxyz"
FORTY = [first + second for first in LETTERS[:4] for second in LETTERS[:10]]
FAR = 10 ** 18 - 1


def suit(ones, others, need, named=None):
    return (ones, others, need, named)


def swearers(one_suit):
    return [name for name, weight in one_suit[0] + one_suit[1]]


def all_oaths(suits):
    return [(case, name) for case, one_suit in enumerate(suits) for name in swearers(one_suit)]


def made_side(chance, names, weight):
    return [(name, chance.randint(1, weight)) for name in names]


def made_suits(seed, many, side=3, weight=6, need=6, naming=0.8):
    """Many suits; each names an oath of an earlier case by the given chance, often the case ahead of it."""
    chance = random.Random(seed)
    suits = []
    for case in range(many):
        names = chance.sample(LETTERS, 2 * side)
        cut = chance.randint(0, side)
        end = cut + chance.randint(0, side)
        ones = made_side(chance, names[:cut], weight)
        others = made_side(chance, names[cut:end], weight)
        earlier = all_oaths(suits)
        named = None
        if earlier and chance.random() < naming:
            near = [oath for oath in earlier if oath[0] == case - 1]
            named = chance.choice(near if near and chance.random() < 0.5 else earlier)
        suits.append(suit(ones, others, chance.randint(1, need), named))
    return suits


def line_of_suits(seed, many, side, weight=1000):
    """Many suits with full sides; each names an oath of the one ahead of it, or of one some places ahead."""
    chance = random.Random(seed)
    suits = []
    for case in range(many):
        names = chance.sample(LETTERS, 2 * side)
        ones = made_side(chance, names[:side], weight)
        others = made_side(chance, names[side:], weight)
        lead = sum(heavy for name, heavy in ones) - sum(heavy for name, heavy in others)
        named = None
        if case:
            ahead = max(0, case - chance.choice((1, 1, 1, 1, 2, 3)))
            named = (ahead, chance.choice(swearers(suits[ahead])))
        # A need near what the ones have more, so that many cases turn with a single oath.
        suits.append(suit(ones, others, max(1, lead + chance.randint(-weight, weight)), named))
    return suits


def some_oaths(seed, suits):
    chance = random.Random(seed)
    oaths = all_oaths(suits)
    return [chance.choice(oaths) for turn in range(chance.randint(0, 6))] if oaths else []


def is_broken(suits, standing, more, case, name):
    named = [one_suit[3] for one_suit, stands in zip(suits, standing) if stands]
    return (case, name) in more or (case, name) in named


def slow_margin(suits, standing, more, case):
    ones, others, need, named = suits[case]
    told = -need
    for name, weight in ones:
        told += 0 if is_broken(suits, standing, more, case, name) else weight
    for name, weight in others:
        told -= 0 if is_broken(suits, standing, more, case, name) else weight
    return told


def ways(suits, more):
    """All lists of True and False that keep to the words of [4]; they say that it is just one."""
    return [
        list(standing)
        for standing in itertools.product([True, False], repeat=len(suits))
        if all(
            stands == (slow_margin(suits, standing, more, case) >= 0)
            for case, stands in enumerate(standing)
        )
    ]


def slow_chain(suits, case):
    named = suits[case][3]
    return [] if named is None else [named[0]] + slow_chain(suits, named[0])


def walked(brought, events, folk, heirs, day):
    """A plain walk day by day: each step is written on the day on which it comes about."""
    steps = []
    for today in range(brought[1], day + 1):
        if today == brought[1]:
            steps.append((today, "brought", None, brought[0]))
        for event in [event for event in events if event[0] == today]:
            walk_on(steps, folk, heirs, today)
            held_by = steps[-1][3]
            if event[1] == "won":
                steps.append((today, "won", held_by, event[3]))
            elif event[2] == folk.stands_for(held_by, today):
                steps.append((today, "given", event[2], event[3]))
        walk_on(steps, folk, heirs, today)
    return steps


def walk_on(steps, folk, heirs, today):
    while folk.dead(steps[-1][3], today):
        steps.append((today, "left", steps[-1][3], heirs[steps[-1][3]]))


class SlowFolk:
    """A folk by the words of [10] and [17]: the list of what was told, asked anew for each answer."""

    def __init__(self, told=()):
        self.told = list(told)

    def of(self, word, name):
        return [deed for deed in self.told if deed[0] == word and deed[1] == name]

    def names(self):
        return [deed[1] for deed in self.told if deed[0] == "come"]

    def came(self, name):
        return self.of("come", name)[0][2]

    def weight(self, name, day):
        days = self.of("come", name) + self.of("rise", name)
        not_later = [deed for deed in days if deed[2] <= day]
        latest = max(deed[2] for deed in not_later)
        return [deed[3] for deed in self.told if deed in not_later and deed[2] == latest][-1]

    def dead(self, name, day):
        return any(deed[2] <= day for deed in self.of("die", name))

    def stands_for(self, name, day):
        return self.stands_for(self.of("die", name)[0][3], day) if self.dead(name, day) else name

    def due(self, deed):
        """All refusals that are due for a deed, in any order."""
        word, name, day, last = deed
        people = [name, last] if word == "die" else [name]
        unknown = word != "come" and [person for person in people if person not in self.names()]
        due = set()
        if word == "come" and not (1 <= len(name) <= 12 and set(name) <= set(LETTERS)):
            due.add("NoName")
        if day not in range(10000) or word != "die" and last not in range(1, 1001):
            due.add("NoMeasure")
        if unknown:
            due.add("Unknown")
        if word == "come" and name in self.names():
            due.add("Taken")
        if word != "come" and [one for one in people if one in self.names() and day < self.came(one)]:
            due.add("NotYet")
        if word == "rise" and self.dead(name, day) or word == "die" and self.of("die", name):
            due.add("Dead")
        if word == "die" and (last == name or self.of("die", last)):
            due.add("NoHeir")
        if word == "come" and len(self.names()) >= 40:
            due.add("TooMany")
        return due

    def refusal(self, deed):
        order = ("NoName", "NoMeasure", "Unknown", "Taken", "NotYet", "Dead", "NoHeir", "TooMany")
        return next((name for name in order if name in self.due(deed)), None)


def least_cost(offers, goal):
    """The least cost of all lists that reach the goal, by trying them all; None where none does."""
    costs = []
    for taken in itertools.product([False, True], repeat=len(offers)):
        chosen = [offer for offer, yes in zip(offers, taken) if yes]
        if sum(gain for cost, gain in chosen) >= goal:
            costs.append(sum(cost for cost, gain in chosen))
    return min(costs, default=None)


def least_cost_by_row(offers, goal):
    """The same for many offers: the least cost for each gain up to the goal."""
    row = [0] + [None] * goal
    for cost, gain in offers:
        for reached in range(goal, 0, -1):
            before = row[max(reached - gain, 0)]
            if before is not None and (row[reached] is None or before + cost < row[reached]):
                row[reached] = before + cost
    return row[goal]


# What a deed's arguments are called, and what a question's are.
ARGUMENTS = {
    "come": ("name", "day", "weight"),
    "rise": ("name", "day", "weight"),
    "die": ("name", "day", "heir"),
    "penance": ("name",),
    "bring": ("name", "day"),
    "give": ("thing", "giver", "taker", "day"),
    "pay": ("payer", "taker", "many", "day"),
    "claim": ("claimer", "thing", "day", "need", "ones", "others"),
    "wergild": ("claimer", "answerer", "many", "day", "need", "ones", "others"),
    "accuse": ("case", "accused", "day", "need", "ones", "others"),
}
QUESTIONS = {
    "now": (), "roll": (), "names": (), "things": (), "cases": (), "suits": (), "standing": (),
    "weight": ("name", "day"), "dead": ("name", "day"), "stands_for": ("name", "day"),
    "stands": ("case",), "margin": ("case",), "breakers": ("case", "swearer"), "chain": ("case",),
    "bearing": ("case",), "paper": ("case",), "fewest": ("case",), "forsworn": ("name",),
    "holder": ("thing", "day"), "road": ("thing", "day"), "holds": ("name", "day"), "owed": ("day",),
    "balance": ("name", "day"),
}
MEASURES = {"day": (0, 9999), "weight": (1, 1000), "need": (1, 12000), "many": (1, 1000000)}
PEOPLE = ("name", "giver", "taker", "payer", "claimer", "answerer")
TRIED = ("claim", "wergild", "accuse")
FREE = ("paper", "fewest")


def slow_standing(suits):
    standing = [False] * len(suits)
    for case in reversed(range(len(suits))):
        standing[case] = slow_margin(suits, standing, [], case) >= 0
    return standing


def slow_owed(entries, folk, day):
    """By the words of [13]: what each owes each other one, then the one set against the other."""
    sums = {}
    for since, debtor, creditor, many in entries:
        if since <= day:
            pair = (folk.stands_for(debtor, day), folk.stands_for(creditor, day))
            sums[pair] = sums.get(pair, 0) + many
    told = []
    for one, other in sums:
        rest = sums[(one, other)] - sums.get((other, one), 0)
        if one != other and rest > 0:
            told.append((one, other, rest))
    return sorted(told)


def slow_balance(entries, folk, day, name):
    triples = slow_owed(entries, folk, day)
    owned = sum(many for debtor, creditor, many in triples if creditor == name)
    return owned - sum(many for debtor, creditor, many in triples if debtor == name)


class SlowMoot:
    """A moot by the words of [11] to [17]: the list of the deeds that were granted, asked anew for each answer."""

    def __init__(self, told=()):
        self.told = list(told)
        self.known = {}

    def parts(self, deed):
        return dict(zip(ARGUMENTS[deed[0]], deed[1:]), word=deed[0])

    def of(self, *words):
        return [self.parts(deed) for deed in self.told if deed[0] in words]

    def folk(self, moment=None):
        return SlowFolk([deed for deed in self.told[:moment] if deed[0] in ("come", "rise", "die")])

    def remembered(self, key, call):
        """What hangs on nothing but the deeds, as long as no more of them are told."""
        if (key, len(self.told)) not in self.known:
            self.known[(key, len(self.told))] = call()
        return self.known[(key, len(self.told))]

    def now(self):
        return len(self.told)

    def roll(self):
        return list(self.told)

    def names(self):
        return [deed["name"] for deed in self.of("come")]

    def things(self):
        return len(self.of("bring"))

    def cases(self):
        return len(self.of(*TRIED))

    def suits(self):
        return self.remembered("suits", self.weighed_suits)

    def weighed_suits(self):
        told = []
        for moment, deed in enumerate(self.told):
            if deed[0] in TRIED:
                held = self.parts(deed)
                folk = self.folk(moment)
                ones, others = [
                    [(name, folk.weight(name, held["day"])) for name in held[side]] for side in ("ones", "others")
                ]
                named = (held["case"], held["accused"]) if deed[0] == "accuse" else None
                told.append((ones, others, held["need"], named))
        return told

    def standing(self):
        return self.remembered("standing", lambda: slow_standing(self.suits()))

    def stands(self, case):
        return self.standing()[case]

    def margin(self, case):
        return slow_margin(self.suits(), self.standing(), [], case)

    def breakers(self, case, name):
        return [
            later for later, one_suit in enumerate(self.suits()) if self.stands(later) and one_suit[3] == (case, name)
        ]

    def chain(self, case):
        return slow_chain(self.suits(), case)

    def bearing(self, case):
        return [other for other in range(self.cases()) if case in self.chain(other)]

    def weight(self, name, day):
        return self.folk().weight(name, day)

    def dead(self, name, day):
        return self.folk().dead(name, day)

    def stands_for(self, name, day):
        return self.folk().stands_for(name, day)

    def forsworn(self, name):
        penances = [moment for moment, deed in enumerate(self.told) if deed == ("penance", name)]
        case = -1
        for moment, deed in enumerate(self.told):
            case += deed[0] in TRIED
            if deed[0] == "accuse" and deed[2] == name and self.stands(case) and moment > max(penances, default=-1):
                return True
        return False

    def events(self, thing):
        told = []
        case = -1
        for deed in self.told:
            held = self.parts(deed)
            case += deed[0] in TRIED
            if deed[0] == "give" and held["thing"] == thing:
                told.append((held["day"], "given", held["giver"], held["taker"]))
            if deed[0] == "claim" and held["thing"] == thing and self.stands(case):
                told.append((held["day"], "won", None, held["claimer"]))
        return told

    def road(self, thing, day):
        brought = self.of("bring")[thing]
        heirs = {deed["name"]: deed["heir"] for deed in self.of("die")}
        return walked((brought["name"], brought["day"]), self.events(thing), self.folk(), heirs, day)

    def holder(self, thing, day):
        steps = self.road(thing, day)
        return steps[-1][3] if steps else None

    def holds(self, name, day):
        return [thing for thing in range(self.things()) if self.holder(thing, day) == name]

    def entries(self):
        told = []
        case = -1
        for deed in self.told:
            held = self.parts(deed)
            case += deed[0] in TRIED
            if deed[0] == "pay":
                told.append((held["day"], held["taker"], held["payer"], held["many"]))
            if deed[0] == "wergild" and self.stands(case):
                told.append((held["day"], held["answerer"], held["claimer"], held["many"]))
        return told

    def owed(self, day):
        return slow_owed(self.entries(), self.folk(), day)

    def balance(self, name, day):
        return slow_balance(self.entries(), self.folk(), day, name)

    def due(self, deed):
        """All refusals that are due for a deed, in any order."""
        held = self.parts(deed)
        told = self.due_of_numbers(held) | self.due_of_folk(held) | self.due_of_bounds(held)
        if deed[0] == "accuse" and "NoCase" not in told:
            told |= self.due_of_oath(held)
        return told | self.due_of_sides(held) if deed[0] in TRIED else told

    def due_of_numbers(self, held):
        due = set()
        if any(not low <= held.get(key, low) <= high for key, (low, high) in MEASURES.items()):
            due.add("NoMeasure")
        if held.get("thing", 0) not in range(self.things()) and "thing" in held:
            due.add("NoThing")
        elif "thing" in held and held["day"] < self.of("bring")[held["thing"]]["day"]:
            due.add("NotYet")
        if "case" in held and held["case"] not in range(self.cases()):
            due.add("NoCase")
        return due

    def due_of_folk(self, held):
        folk = self.folk()
        if held["word"] == "come":
            due = {"Taken"} if held["name"] in folk.names() else set()
            return due if re.fullmatch("[a-z]{1,12}", held["name"]) else due | {"NoName"}
        due = set()
        acting = [held[key] for key in PEOPLE if key in held] + held.get("ones", []) + held.get("others", [])
        for name in acting + [held[key] for key in ("heir",) if key in held]:
            if name not in folk.names():
                due.add("Unknown")
            elif "day" in held and held["day"] < folk.came(name):
                due.add("NotYet")
        if held["word"] in ("die", "penance"):
            due |= {"Dead"} if folk.of("die", held["name"]) else set()
        elif any(folk.dead(name, held["day"]) for name in acting):
            due.add("Dead")
        if "heir" in held and (held["heir"] == held["name"] or folk.of("die", held["heir"])):
            due.add("NoHeir")
        return due

    def due_of_bounds(self, held):
        word = held["word"]
        over = word == "come" and len(self.names()) >= 40 or word == "bring" and self.things() >= 40
        over = over or word in TRIED and (self.cases() >= 60 or max(len(held["ones"]), len(held["others"])) > 12)
        return {"TooMany"} if over or len(self.told) >= 400 else set()

    def due_of_oath(self, held):
        due = set()
        if held["accused"] not in swearers(self.suits()[held["case"]]):
            due.add("NoOath")
        elif self.breakers(held["case"], held["accused"]):
            due.add("Broken")
        if held["day"] < self.of(*TRIED)[held["case"]]["day"]:
            due.add("NotYet")
        return due

    def due_of_sides(self, held):
        """A name that nobody has, or who has not come yet, weighs nothing here: another refusal goes ahead of it."""
        folk = self.folk()
        sworn = held["ones"] + held["others"]
        due = set()
        if len(set(sworn)) < len(sworn):
            due.add("SwornTwice")
        if any(self.forsworn(name) for name in sworn):
            due.add("Forsworn")
        there = [name for name in held["ones"] if name in folk.names() and folk.came(name) <= held["day"]]
        if sum(folk.weight(name, held["day"]) for name in there) < held["need"]:
            due.add("TooLight")
        return due

    def refusal(self, deed):
        due = self.due(deed)
        return next((name for name in REFUSALS if name in due), None)

    def due_of_question(self, question, arguments):
        held = dict(zip(QUESTIONS[question], arguments))
        due = self.due_of_numbers({key: held[key] for key in held if key != "thing"})
        if "name" in held and held["name"] not in self.names():
            due.add("Unknown")
        elif question == "weight" and held["day"] < self.folk().came(held["name"]):
            due.add("NotYet")
        if "thing" in held and held["thing"] not in range(self.things()):
            due.add("NoThing")
        if "swearer" in held and "NoCase" not in due and held["swearer"] not in swearers(self.suits()[held["case"]]):
            due.add("NoOath")
        return due


def answer(moot, question, arguments):
    """What a moot tells, or the name of its refusal; what a slow one would tell or refuse."""
    if isinstance(moot, SlowMoot):
        due = moot.due_of_question(question, arguments)
        if due:
            return next(name for name in REFUSALS if name in due)
    try:
        return getattr(moot, question)(*arguments)
    except MootError as refusal:
        return type(refusal).__name__


def all_questions(moot, days, wrong=True, leave=()):
    """All questions of a moot for these days; also with names and numbers that are not there."""
    offered = {
        "name": moot.names() + ["zoe", ""] * wrong,
        "day": list(days) + [-1, 10000] * wrong,
        "thing": list(range(moot.things())) + [-1, moot.things()] * wrong,
        "case": list(range(moot.cases())) + [-1, moot.cases()] * wrong,
        "swearer": moot.names() + ["zoe"] * wrong,
    }
    for question, wanted in QUESTIONS.items():
        if question not in leave:
            for arguments in itertools.product(*[offered[key] for key in wanted]):
                yield question, arguments


def all_told(moot, days, wrong=True, leave=()):
    """All that can be asked of a moot for these days, with what it tells."""
    return [(asked, answer(moot, *asked)) for asked in all_questions(moot, days, wrong, leave)]


def moot_of(deeds):
    moot = Moot()
    for deed in deeds:
        done(moot, deed)
    return moot


MADE_WORDS = (
    ["come", "die"] + 2 * ["rise", "bring", "pay"] + 3 * ["penance", "give", "claim", "wergild"] + 12 * ["accuse"]
)
MADE_NAMES = ["ann", "bob", "cid", "dan", "eve", "fay", "gus", "hob", "ida", "jon", "kit", "lot"]


def made_deed(chance, moot, wrong=0.02, names=MADE_NAMES, last=20):
    """A deed that a moot often grants; each argument is wrong by the given chance."""
    word = chance.choice(MADE_WORDS)
    known = chance.sample(moot.names(), len(moot.names())) or names
    free = [name for name in known if name in moot.names() and not moot.forsworn(name) and not moot.dead(name, last)]
    free = free if chance.random() > wrong else known
    cut = chance.randint(1, 4)
    case = max(0, moot.cases() - chance.choice((1, 1, 1, 2, 3, 9)))
    sworn = swearers(moot.suits()[case]) if moot.cases() else []
    first = max([deed[-4] for deed in moot.roll() if deed[0] in TRIED], default=3) if word == "accuse" else 3
    good = {
        "name": chance.choice(names if word == "come" else known), "accused": chance.choice(sworn) if sworn else "ann",
        "day": chance.randint(0, 4) if word == "come" else chance.randint(min(first, last), last),
        "weight": chance.randint(1, 9), "need": chance.choice((1, 2, 3, 5, 8)), "many": chance.randint(1, 30),
        "case": case, "thing": chance.randrange(max(1, moot.things())), "ones": free[:cut],
        "others": free[cut:cut + chance.choice((0, 0, 1, 2, 3))],
    }
    for key in ("heir", "giver", "taker", "payer", "claimer", "answerer"):
        good[key] = chance.choice(known)
    if word == "give" and moot.things() and chance.random() < 0.7:
        good["giver"] = moot.holder(good["thing"], good["day"]) or good["giver"]
    bad = {
        "name": ("zoe", "Ann", ""), "heir": ("zoe", ""), "giver": ("zoe",), "taker": ("zoe",), "payer": ("zoe",),
        "claimer": ("zoe",), "answerer": ("zoe",), "accused": ("zoe", "ann", ""), "day": (-1, 0, 1, 2, 9999, 10000),
        "weight": (0, 1001), "need": (0, 12000, 12001), "many": (0, 1000000, 1000001), "case": (-1, moot.cases()),
        "thing": (-1, moot.things()), "ones": (["zoe"], free[:2] * 2, free * 5),
        "others": (["zoe"], good["ones"], free * 5),
    }
    taken = {key: chance.choice(bad[key]) if chance.random() < wrong else good[key] for key in good}
    return (word,) + tuple(taken[key] for key in ARGUMENTS[word])


def made_moot(seed, many, names=MADE_NAMES, last=20):
    """A moot on which deeds were tried until so many were granted; all deeds that were tried are told, too."""
    chance = random.Random(seed)
    moot = moot_of([("come", name, 0, chance.randint(1, 9)) for name in names[:6]])
    tried = moot.roll()
    while moot.now() < many:
        deed = made_deed(chance, moot, names=names, last=last)
        tried.append(deed)
        try:
            done(moot, deed)
        except MootError:
            pass
    return moot, tried


def full_sides(chance, moot):
    free = [name for name in FORTY if not moot.forsworn(name) and not moot.dead(name, 9999)]
    chance.shuffle(free)
    return free[:12], free[12:12 + chance.choice((0, 11, 12, 12))]


def full_case(chance, moot):
    ones, others = full_sides(chance, moot)
    heavy = sum(moot.weight(name, 500) for name in ones)
    lead = heavy - sum(moot.weight(name, 500) for name in others)
    need = min(12000, max(1, min(heavy, lead + chance.randint(-900, 300))))
    word = chance.choice(("claim", "wergild", "accuse", "accuse", "accuse"))
    if word == "accuse" and moot.cases():
        case = max(0, moot.cases() - chance.choice((1, 1, 1, 2, 5)))
        return (word, case, chance.choice(swearers(moot.suits()[case])), 500, need, ones, others)
    if word == "claim":
        return (word, chance.choice(FORTY), chance.randrange(40), 500, need, ones, others)
    return ("wergild", chance.choice(FORTY), chance.choice(FORTY), 1000000, 500, need, ones, others)


def full_other(chance, moot):
    word = chance.choice(("give", "give", "pay", "rise", "penance", "penance"))
    one, other = chance.choice(FORTY), chance.choice(FORTY)
    day = chance.randint(50, 9999)
    if word == "give":
        thing = chance.randrange(40)
        return (word, thing, chance.choice((one, moot.holder(thing, day))), other, day)
    if word == "pay":
        return (word, one, other, chance.randint(1, 1000000), day)
    if word == "rise":
        return (word, one, day, chance.randint(1, 1000))
    forsworn = [name for name in FORTY if moot.forsworn(name)]
    return (word, chance.choice(forsworn or FORTY))


def full_moot(seed):
    """A moot of 40 folk, 40 things, 60 cases and 400 moments."""
    chance = random.Random(seed)
    moot = Moot()
    for name in FORTY:
        moot.come(name, chance.randint(0, 40), chance.randint(500, 1000))
    for thing in range(40):
        moot.bring(chance.choice(FORTY), chance.randint(40, 50))
    while moot.now() < 400:
        behind = moot.cases() * 5 < moot.now() - 80
        deed = full_case(chance, moot) if behind and moot.cases() < 60 else full_other(chance, moot)
        if moot.now() in (200, 250, 300):
            deed = ("die", chance.choice(FORTY), 9000, chance.choice(FORTY))
        try:
            done(moot, deed)
        except MootError:
            pass
    return moot


def deep(value):
    """A text of a value with all that lies in it, to hold it against itself later."""
    return repr(value)


class Refusing:
    """For a TestCase: a call is refused with just this class."""

    def assert_refused(self, refusal, call, *arguments):
        with self.assertRaises(refusal) as caught:
            call(*arguments)
        self.assertIs(type(caught.exception), refusal)
        self.assertIsInstance(caught.exception, MootError)
        self.assertIsInstance(caught.exception, ValueError)
        self.assertIsInstance(caught.exception.args[0], str)
