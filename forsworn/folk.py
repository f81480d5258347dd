"""Folk: when they came, what they weigh, and who stands for them when they are dead."""

from forsworn.errors import Dead, NoHeir, NoName, NotYet, Taken, TooMany, Unknown
from forsworn.measures import check_day, check_weight
from forsworn.oaths import is_name

MOST_FOLK = 40


class Folk:
    def __init__(self):
        # All four by name; the comings keep the order in which folk came.
        self.comings = {}
        # By day, within: of two weights of one day the one that is told later takes the other one's place.
        self.weights = {}
        self.deaths = {}
        self.heirs = {}

    def come(self, name, day, weight):
        self.check_coming(name, day, weight)
        self.comings[name] = day
        self.weights[name] = {day: weight}

    def rise(self, name, day, weight):
        self.check_rise(name, day, weight)
        self.weights[name][day] = weight

    def die(self, name, day, heir):
        self.check_death(name, day, heir)
        self.deaths[name] = day
        self.heirs[name] = heir

    def names(self):
        return list(self.comings)

    def came(self, name):
        self.check_known(name)
        return self.comings[name]

    def weight(self, name, day):
        check_day(day)
        self.check_known(name)
        self.check_there(name, day)
        told = self.weights[name]
        return told[max([since for since in told if since <= day])]

    def dead(self, name, day):
        check_day(day)
        self.check_known(name)
        return self.died_by(name, day)

    def stands_for(self, name, day):
        check_day(day)
        self.check_known(name)
        return self.stand_in(name, day)

    def twin(self):
        copies = {}
        for name, told in self.weights.items():
            copies[name] = dict(told)
        other = Folk()
        other.comings = dict(self.comings)
        other.weights = copies
        other.deaths = dict(self.deaths)
        other.heirs = dict(self.heirs)
        return other

    # These four ask for no measure and no known name: they serve those who hold these in hand already.

    def stand_in(self, name, day):
        # Each heir's own death is told later than that of whom he follows, so that no line comes round.
        while self.died_by(name, day):
            name = self.heirs[name]
        return name

    def died_by(self, name, day):
        return name in self.deaths and self.deaths[name] <= day

    def death_day(self, name):
        return self.deaths[name]

    def heir_of(self, name):
        return self.heirs[name]

    # Each row of checks goes by the order of the refusals and lies apart from the change that follows it.

    def check_coming(self, name, day, weight):
        if not is_name(name):
            raise NoName(f"{name!r} is no name")
        check_day(day)
        check_weight(weight)
        if name in self.comings:
            raise Taken(f"somebody is called {name} already")
        if len(self.comings) >= MOST_FOLK:
            raise TooMany(f"there are {MOST_FOLK} folk already")

    def check_rise(self, name, day, weight):
        check_day(day)
        check_weight(weight)
        self.check_known(name)
        self.check_there(name, day)
        self.check_living(name, day)

    def check_death(self, name, day, heir):
        check_day(day)
        self.check_known(name)
        self.check_known(heir)
        self.check_there(name, day)
        self.check_there(heir, day)
        self.check_untold(name)
        if heir == name or heir in self.deaths:
            raise NoHeir(f"{heir} can be no heir of {name}")

    def check_known(self, name):
        if name not in self.comings:
            raise Unknown(f"nobody is called {name}")

    def check_there(self, name, day):
        if day < self.comings[name]:
            raise NotYet(f"{name} has not come by day {day}")

    def check_living(self, name, day):
        if self.died_by(name, day):
            raise Dead(f"{name} is dead on day {day}")

    def check_untold(self, name):
        if name in self.deaths:
            raise Dead(f"the death of {name} is told already")
