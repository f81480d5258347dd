"""The refusals. Each is made with a text, whose words are free, and knows what its class is called."""


class MootError(ValueError):
    def called(self):
        return "MootError"


class NoName(MootError):
    def called(self):
        return "NoName"


class NoMeasure(MootError):
    def called(self):
        return "NoMeasure"


class Unknown(MootError):
    def called(self):
        return "Unknown"


class Taken(MootError):
    def called(self):
        return "Taken"


class NoThing(MootError):
    def called(self):
        return "NoThing"


class NoCase(MootError):
    def called(self):
        return "NoCase"


class NoOath(MootError):
    def called(self):
        return "NoOath"


class NotYet(MootError):
    def called(self):
        return "NotYet"


class Dead(MootError):
    def called(self):
        return "Dead"


class NoHeir(MootError):
    def called(self):
        return "NoHeir"


class TooMany(MootError):
    def called(self):
        return "TooMany"


class SwornTwice(MootError):
    def called(self):
        return "SwornTwice"


class Forsworn(MootError):
    def called(self):
        return "Forsworn"


class TooLight(MootError):
    def called(self):
        return "TooLight"


class Broken(MootError):
    def called(self):
        return "Broken"


class NoMoment(MootError):
    def called(self):
        return "NoMoment"


class NothingBack(MootError):
    def called(self):
        return "NothingBack"


class NothingForth(MootError):
    def called(self):
        return "NothingForth"


class NoDeed(MootError):
    def called(self):
        return "NoDeed"
