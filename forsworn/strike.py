"""The struck moot: what is left of a moot when all that its accusings have undone is left out."""

from forsworn.deeds import done
from forsworn.moot import Moot
from forsworn.stands import broken


def struck(moot):
    standing = moot.standing()
    gone = broken(moot.suits())
    other = Moot()
    case = 0
    for deed in moot.roll():
        if deed[0] not in ("claim", "wergild", "accuse"):
            done(other, deed)
            continue
        if deed[0] != "accuse" and standing[case]:
            done(other, with_kept_names(deed, case, gone))
        case += 1
    return other


def with_kept_names(deed, case, gone):
    # The two sides are the last arguments of every case's deed.
    return deed[:-2] + (kept_names(deed[-2], case, gone), kept_names(deed[-1], case, gone))


def kept_names(names, case, gone):
    return [name for name in names if (case, name) not in gone]
