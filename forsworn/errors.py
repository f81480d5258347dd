"""The refusals. Each is made with a text; only its class counts, its words are free."""


class MootError(ValueError):
    pass


class NoName(MootError):
    pass


class NoMeasure(MootError):
    pass


class Unknown(MootError):
    pass


class Taken(MootError):
    pass


class NoThing(MootError):
    pass


class NoCase(MootError):
    pass


class NoOath(MootError):
    pass


class NotYet(MootError):
    pass


class Dead(MootError):
    pass


class NoHeir(MootError):
    pass


class TooMany(MootError):
    pass


class SwornTwice(MootError):
    pass


class Forsworn(MootError):
    pass


class TooLight(MootError):
    pass


class Broken(MootError):
    pass


class NoMoment(MootError):
    pass


class NothingBack(MootError):
    pass


class NothingForth(MootError):
    pass


class NoDeed(MootError):
    pass
