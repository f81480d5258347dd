"""The moot: the deeds that are done on it, and what it tells of its folk, things, money and cases."""

from forsworn.deeds import copied, done
from forsworn.dues import balance, owed
from forsworn.errors import Broken, Forsworn, NoMoment, NoThing, NotYet, SwornTwice, TooLight, TooMany
from forsworn.folk import Folk
from forsworn.goods import holder, road
from forsworn.measures import check_day, check_money, check_need
from forsworn.oaths import total
from forsworn.papers import paper
from forsworn.stands import NAMED, bearing, breakers, chain, check_case, check_oath, margin, settled
from forsworn.turning import fewest

MOST_THINGS = 40
MOST_CASES = 60
MOST_SWEARERS = 12
MOST_MOMENTS = 400


class Moot:
    def __init__(self):
        self.deeds = []
        self.folk = Folk()
        # By thing: the pair (name, day) of its bringing, and what befell it. That and the debts are
        # rows (case, event) and (case, entry), which count where the case is None or stands.
        self.bringings = []
        self.happenings = []
        self.debts = []
        # By case: its suit, its day, and whether it stands.
        self.trials = []
        self.trial_days = []
        self.verdicts = []
        # By name: how many cases there were at its last penance.
        self.penances = {}

    # The deeds. All that may refuse one goes ahead of the first change, by the order of the refusals.

    def come(self, name, day, weight):
        self.folk.check_coming(name, day, weight)
        self.check_moments()
        self.folk.come(name, day, weight)
        self.deeds.append(("come", name, day, weight))

    def rise(self, name, day, weight):
        self.folk.check_rise(name, day, weight)
        self.check_moments()
        self.folk.rise(name, day, weight)
        self.deeds.append(("rise", name, day, weight))

    def die(self, name, day, heir):
        self.folk.check_death(name, day, heir)
        self.check_moments()
        self.folk.die(name, day, heir)
        self.deeds.append(("die", name, day, heir))

    def penance(self, name):
        self.folk.check_known(name)
        self.folk.check_untold(name)
        self.check_moments()
        self.penances[name] = len(self.trials)
        self.deeds.append(("penance", name))

    def bring(self, name, day):
        check_day(day)
        self.check_named(day, [name], None, None)
        if len(self.bringings) >= MOST_THINGS:
            raise TooMany(f"there are {MOST_THINGS} things already")
        self.check_moments()
        self.bringings.append((name, day))
        self.happenings.append([])
        self.deeds.append(("bring", name, day))
        return len(self.bringings) - 1

    def give(self, thing, giver, taker, day):
        check_day(day)
        self.check_named(day, [giver, taker], thing, None)
        self.check_moments()
        self.happenings[thing].append((None, (day, "given", giver, taker)))
        self.deeds.append(("give", thing, giver, taker, day))

    def pay(self, payer, taker, many, day):
        check_money(many)
        check_day(day)
        self.check_named(day, [payer, taker], None, None)
        self.check_moments()
        self.debts.append((None, (day, taker, payer, many)))
        self.deeds.append(("pay", payer, taker, many, day))

    def claim(self, claimer, thing, day, need, ones, others):
        check_day(day)
        check_need(need)
        self.check_named(day, [claimer] + ones + others, thing, None)
        self.check_sides(day, need, ones, others)
        case = self.try_case(day, need, ones, others, None)
        self.happenings[thing].append((case, (day, "won", None, claimer)))
        self.deeds.append(("claim", claimer, thing, day, need, list(ones), list(others)))
        return case

    def wergild(self, claimer, answerer, many, day, need, ones, others):
        check_money(many)
        check_day(day)
        check_need(need)
        self.check_named(day, [claimer, answerer] + ones + others, None, None)
        self.check_sides(day, need, ones, others)
        case = self.try_case(day, need, ones, others, None)
        self.debts.append((case, (day, answerer, claimer, many)))
        self.deeds.append(("wergild", claimer, answerer, many, day, need, list(ones), list(others)))
        return case

    def accuse(self, case, name, day, need, ones, others):
        check_day(day)
        check_need(need)
        self.check_named(day, ones + others, None, (case, name))
        self.check_sides(day, need, ones, others)
        if breakers(self.trials, case, name):
            raise Broken(f"the oath of {name} in case {case} is broken already")
        self.deeds.append(("accuse", case, name, day, need, list(ones), list(others)))
        return self.try_case(day, need, ones, others, (case, name))

    # The questions.

    def now(self):
        return len(self.deeds)

    def roll(self):
        return [copied(deed) for deed in self.deeds]

    def names(self):
        return self.folk.names()

    def weight(self, name, day):
        return self.folk.weight(name, day)

    def dead(self, name, day):
        return self.folk.dead(name, day)

    def stands_for(self, name, day):
        return self.folk.stands_for(name, day)

    def things(self):
        return len(self.bringings)

    def cases(self):
        return len(self.trials)

    def suits(self):
        return [(list(ones), list(others), need, named) for ones, others, need, named in self.trials]

    def standing(self):
        return list(self.verdicts)

    def stands(self, case):
        check_case(self.trials, case)
        return self.verdicts[case]

    def margin(self, case):
        return margin(self.trials, case)

    def breakers(self, case, name):
        return breakers(self.trials, case, name)

    def chain(self, case):
        return chain(self.trials, case)

    def bearing(self, case):
        return bearing(self.trials, case)

    def paper(self, case):
        return paper(self.trials, case)

    def fewest(self, case):
        return fewest(self.trials, case)

    def forsworn(self, name):
        self.folk.check_known(name)
        return name in self.forsworn_names()

    def holder(self, thing, day):
        check_day(day)
        self.check_thing(thing)
        return holder(self.bringings[thing], self.counting(self.happenings[thing]), self.folk, day)

    def road(self, thing, day):
        check_day(day)
        self.check_thing(thing)
        return road(self.bringings[thing], self.counting(self.happenings[thing]), self.folk, day)

    def holds(self, name, day):
        check_day(day)
        self.folk.check_known(name)
        return [thing for thing in range(len(self.bringings)) if self.holder(thing, day) == name]

    def owed(self, day):
        check_day(day)
        return owed(self.counting(self.debts), self.folk, day)

    def balance(self, name, day):
        check_day(day)
        self.folk.check_known(name)
        return balance(self.counting(self.debts), self.folk, day, name)

    def twin(self):
        return self.then(len(self.deeds))

    def then(self, moment):
        if not 0 <= moment <= len(self.deeds):
            raise NoMoment(f"there is no moment {moment}")
        other = Moot()
        # What was granted once is granted again: whether a deed is refused hangs on those ahead of it alone.
        for deed in self.deeds[:moment]:
            done(other, deed)
        return other

    # What deeds and questions share.

    def counting(self, rows):
        return [told for case, told in rows if case is None or self.verdicts[case]]

    def forsworn_names(self):
        names = {}
        for case, suit in enumerate(self.trials):
            oath = suit[NAMED]
            if oath is not None and self.verdicts[case] and case >= self.penances.get(oath[1], 0):
                names[oath[1]] = True
        return names

    def weighed(self, names, day):
        return [(name, self.folk.weight(name, day)) for name in names]

    def try_case(self, day, need, ones, others, oath):
        self.trials.append((self.weighed(ones, day), self.weighed(others, day), need, oath))
        self.trial_days.append(day)
        self.verdicts = settled(self.trials)
        return len(self.trials) - 1

    def check_named(self, day, people, thing, oath):
        # The thing and the oath are None where a deed has none; the accused name is not one of the people.
        for name in people:
            self.folk.check_known(name)
        if thing is not None:
            self.check_thing(thing)
        if oath is not None:
            check_oath(self.trials, oath[0], oath[1])
        for name in people:
            self.folk.check_there(name, day)
        if thing is not None and day < self.bringings[thing][1]:
            raise NotYet(f"thing {thing} is not brought by day {day}")
        if oath is not None and day < self.trial_days[oath[0]]:
            raise NotYet(f"the accused case is of a later day than {day}")
        for name in people:
            self.folk.check_living(name, day)

    def check_thing(self, thing):
        # A number below nought would else be taken as a place from the end.
        if not 0 <= thing < len(self.bringings):
            raise NoThing(f"there is no thing {thing}")

    def check_sides(self, day, need, ones, others):
        if len(self.trials) >= MOST_CASES:
            raise TooMany(f"there are {MOST_CASES} cases already")
        if max(len(ones), len(others)) > MOST_SWEARERS:
            raise TooMany(f"more than {MOST_SWEARERS} swear on one side")
        self.check_moments()
        if len(set(ones + others)) < len(ones + others):
            raise SwornTwice("a name swears twice")
        barred = self.forsworn_names()
        for name in ones + others:
            if name in barred:
                raise Forsworn(f"{name} is forsworn")
        if total(self.weighed(ones, day)) < need:
            raise TooLight(f"the ones weigh less than {need}")

    def check_moments(self):
        if len(self.deeds) >= MOST_MOMENTS:
            raise TooMany(f"there are {MOST_MOMENTS} moments already")
