"""forsworn.notes: [21], [22], and of [1] and [17] what touches them."""

import random
import re
import unittest

from forsworn.deeds import done
from forsworn.errors import MootError, NoDeed, TooLight, Unknown
from forsworn.moot import Moot
from forsworn.notes import lines, read_deed, relived, shown_deed
from tests.helper import ARGUMENTS, LETTERS, Refusing, all_told, deep, full_moot, made_moot, moot_of

DAYS = (0, 4, 9, 14, 20)
SIGNS = [chr(code) for code in range(32, 127) if chr(code) != "\x25"]
WRITTEN = {
    "come ann 0 10": ("come", "ann", 0, 10),
    "rise ann 3 12": ("rise", "ann", 3, 12),
    "die cid 9 ann": ("die", "cid", 9, "ann"),
    "penance bob": ("penance", "bob"),
    "bring ann 3": ("bring", "ann", 3),
    "give 0 ann bob 4": ("give", 0, "ann", "bob", 4),
    "pay bob cid 1000000 5": ("pay", "bob", "cid", 1000000, 5),
    "claim cid 0 6 5 + cid bob - ann": ("claim", "cid", 0, 6, 5, ["cid", "bob"], ["ann"]),
    "claim cid 0 6 5 + - bob": ("claim", "cid", 0, 6, 5, [], ["bob"]),
    "claim cid 0 6 5 + ann -": ("claim", "cid", 0, 6, 5, ["ann"], []),
    "claim cid 0 6 5 + -": ("claim", "cid", 0, 6, 5, [], []),
    "wergild ann bob 30 6 9 + ann - bob cid": ("wergild", "ann", "bob", 30, 6, 9, ["ann"], ["bob", "cid"]),
    "wergild ann bob 30 6 9 + -": ("wergild", "ann", "bob", 30, 6, 9, [], []),
    "accuse 0 bob 7 12 + ann - cid": ("accuse", 0, "bob", 7, 12, ["ann"], ["cid"]),
    "accuse 0 bob 7 12 + ann ann - ann": ("accuse", 0, "bob", 7, 12, ["ann", "ann"], ["ann"]),
}

# A second reading, straight from [21]: a whole pattern for each word.
NUMBER = "(0|[1-9][0-9]{0,8})"
NAME = "([a-z]{1,12})"
SIDES = r"\+((?: [a-z]{1,12})*) -((?: [a-z]{1,12})*)"
PATTERNS = {
    word: re.compile(" ".join([word] + [
        NUMBER if key in ("day", "weight", "many", "need", "thing", "case") else NAME
        for key in keys if key not in ("ones", "others")
    ] + [SIDES] * ("ones" in keys)))
    for word, keys in ARGUMENTS.items()
}


def read_by_patterns(text):
    """The deed, or None where the text writes none."""
    for word, pattern in PATTERNS.items():
        found = pattern.fullmatch(text)
        if found:
            parts = [int(part) if re.fullmatch("[0-9]+", part) else part for part in found.groups()]
            if "ones" in ARGUMENTS[word]:
                parts[-2:] = [part.split() for part in found.groups()[-2:]]
            return (word,) + tuple(parts)
    return None


def made_written(chance):
    """Any deed that can be written; no moot need grant it."""
    word = chance.choice(list(ARGUMENTS))

    def name():
        return "".join(chance.choice(LETTERS) for turn in range(chance.choice((1, 2, 3, 11, 12))))

    def number():
        return chance.choice((0, 1, 9, 10, 99, 9999, 10 ** 8, 999999999, chance.randrange(10 ** 9)))

    def part(key):
        if key in ("ones", "others"):
            return [name() for turn in range(chance.choice((0, 0, 1, 2, 13, 30)))]
        return number() if key in ("day", "weight", "many", "need", "thing", "case") else name()

    return (word,) + tuple(part(key) for key in ARGUMENTS[word])


class Written(unittest.TestCase, Refusing):
    def assert_read(self, text):
        """A text is read as the second reading reads it, or refused where that finds none."""
        deed = read_by_patterns(text)
        if deed is None:
            self.assert_refused(NoDeed, read_deed, text)
            return False
        told = read_deed(text)
        self.assertEqual(deep(told), deep(deed), text)
        self.assertEqual(shown_deed(told), text)
        return True

    def test_each_word(self):
        self.assertEqual({deed[0] for deed in WRITTEN.values()}, set(ARGUMENTS))
        for text, deed in WRITTEN.items():
            self.assertEqual(shown_deed(deed), text)
            self.assertEqual(deep(read_deed(text)), deep(deed))
            self.assertTrue(self.assert_read(text))

    def test_made_deeds(self):
        chance = random.Random(1)
        for turn in range(1500):
            deed = made_written(chance)
            text = shown_deed(deed)
            self.assertEqual(deep(read_deed(text)), deep(deed))
            self.assertTrue(self.assert_read(text))

    def test_numbers(self):
        for number in (0, 1, 9, 10, 11, 100, 9999, 10000, 99999999, 100000000, 999999998, 999999999):
            for deed in (("give", number, "ann", "bob", 4), ("bring", "ann", number), ("come", "ann", 0, number),
                         ("claim", "ann", 0, 0, number, [], []), ("accuse", number, "ann", 1, 1, [], ["ann"])):
                self.assertEqual(read_deed(shown_deed(deed)), deed)
        for word in ("1000000000", "9999999999", "10000000000", "00", "01", "000000001", "0000000001", "-1", "+1", "1.0",
                     "1_0", "0x1", "1e3", "", "a", "1a", "a1", "--1", "\u0661", "\u00b2", "1\n"):
            self.assert_refused(NoDeed, read_deed, f"bring ann {word}")
            self.assert_refused(NoDeed, read_deed, f"give {word} ann bob 4")
            self.assert_refused(NoDeed, read_deed, f"claim ann 0 {word} 4 + ann -")
            self.assert_refused(NoDeed, read_deed, f"claim ann 0 4 {word} + ann -")

    def test_names(self):
        for name in ("a", "z", "abcdefghijkl", "zzzzzzzzzzzz"):
            self.assertEqual(read_deed(f"penance {name}"), ("penance", name))
            self.assertEqual(read_deed(f"claim ann 0 4 1 + {name} - {name}"), ("claim", "ann", 0, 4, 1, [name], [name]))
        for name in ("abcdefghijklm", "a" * 20, "Ann", "aNN", "ANN", "a1", "1", "a_b", "a-b", "a+b", "", "+", "\u00e9",
                     "ann\n", "ann\t", ".", "~"):
            self.assert_refused(NoDeed, read_deed, f"penance {name}")
            self.assert_refused(NoDeed, read_deed, f"die ann 3 {name}")
            self.assert_refused(NoDeed, read_deed, f"claim {name} 0 4 1 + ann -")
            self.assert_refused(NoDeed, read_deed, f"claim ann 0 4 1 + {name} -")
            self.assert_refused(NoDeed, read_deed, f"claim ann 0 4 1 + ann {name} - bob")
            self.assert_refused(NoDeed, read_deed, f"claim ann 0 4 1 + ann - {name}")

    def test_sides(self):
        many = ["ann", "bob", "ann"] * 20
        deed = ("accuse", 0, "ann", 1, 1, many, many[:7])
        self.assertEqual(read_deed(shown_deed(deed)), deed)
        for text in ("claim ann 0 4 1", "claim ann 0 4 1 +", "claim ann 0 4 1 -", "claim ann 0 4 1 ann bob",
                     "claim ann 0 4 1 + ann", "claim ann 0 4 1 - ann", "claim ann 0 4 1 - ann + bob",
                     "claim ann 0 4 1 - +", "claim ann 0 4 - + ann", "claim ann 0 4 1 ann -", "claim ann 0 4 1 + - -",
                     "claim ann 0 4 1 + + -", "claim ann 0 4 1 + ann - + bob", "claim ann 0 4 1 + ann - bob -",
                     "claim ann 0 4 + ann - bob", "claim ann 0 4 1 1 + ann - bob", "claim + ann - bob", "claim",
                     "claim ann 0 4 1 +-", "claim ann 0 4 1 +ann -bob", "claim ann 0 4 1 + ann  -", "+ -", "+", "-"):
            self.assert_refused(NoDeed, read_deed, text)

    def test_no_deeds(self):
        for text in ("", " ", "  ", "come", "come ", "penance", "Come ann 0 10", "COME ann 0 10", "com ann 0 10",
                     "comes ann 0 10", "ann", "0", "come ann 0", "come ann 0 10 11", "come ann ten 10", "come 0 ann 10",
                     "die ann 9 0", "penance ann bob", "penance ann + -", "come ann 0 10 + -", "undo", "redo", "moment",
                     "stands 0", "who 0 1", "forsworn ann", "balance ann 1", "give ann 0 bob 4", "pay ann bob 4",
                     "come,ann,0,10", "come\tann 0 10", "come ann 0 10\n", "\ncome ann 0 10"):
            self.assert_refused(NoDeed, read_deed, text)

    def test_bounds_and_folk_are_not_looked_at(self):
        self.assertEqual(read_deed("come ann 999999999 0"), ("come", "ann", 999999999, 0))
        self.assertEqual(read_deed("die ann 5 ann"), ("die", "ann", 5, "ann"))

    def test_a_sign_put_in_taken_out_or_changed(self):
        good = 0
        for text in WRITTEN:
            for place in range(len(text) + 1):
                for sign in SIGNS:
                    good += self.assert_read(text[:place] + sign + text[place:])
                    good += self.assert_read(text[:place] + sign + text[place + 1:])
                good += self.assert_read(text[:place] + text[place + 1:])
        self.assertGreater(good, 1000)

    def test_a_word_taken_out_twice_or_turned_about(self):
        for text in WRITTEN:
            words = text.split(" ")
            for place in range(len(words)):
                self.assert_read(" ".join(words[:place] + words[place + 1:]))
                self.assert_read(" ".join(words[:place + 1] + words[place:]))
                for other in range(place):
                    changed = list(words)
                    changed[place], changed[other] = words[other], words[place]
                    self.assert_read(" ".join(changed))

    def test_blanks(self):
        for text in WRITTEN:
            self.assert_refused(NoDeed, read_deed, " " + text)
            self.assert_refused(NoDeed, read_deed, text + " ")
            self.assert_refused(NoDeed, read_deed, text.replace(" ", "  ", 1))
            self.assert_refused(NoDeed, read_deed, text.replace(" ", "", 1))
            self.assert_refused(NoDeed, read_deed, text.replace(" ", "\t", 1))

    def test_made_texts(self):
        chance = random.Random(2)
        parts = list(ARGUMENTS) + ["ann", "bob", "0", "7", "00", "+", "-", "", "x" * 13, "A"]
        good = 0
        for turn in range(4000):
            words = [chance.choice(list(ARGUMENTS))] + [chance.choice(parts) for place in range(chance.randint(0, 7))]
            good += self.assert_read(" ".join(words))
        self.assertGreater(good, 20)

    def test_a_deed_of_its_own(self):
        text = "claim cid 0 6 5 + cid bob - ann"
        one, other = read_deed(text), read_deed(text)
        self.assertIs(type(one), tuple)
        self.assertEqual([type(part) for part in one], [str, str, int, int, int, list, list])
        one[5].append("changed")
        one[6].clear()
        self.assertEqual(other, WRITTEN[text])
        self.assertEqual(read_deed(text), WRITTEN[text])

    def test_what_is_handed_in_stays(self):
        chance = random.Random(3)
        for turn in range(100):
            deed = made_written(chance)
            before = deep(deed)
            shown_deed(deed)
            self.assertEqual(deep(deed), before)


class Relived(unittest.TestCase, Refusing):
    def test_nothing(self):
        self.assertEqual(lines(Moot()), [])
        self.assertEqual(relived([]).now(), 0)

    def test_the_lines_of_a_moot(self):
        deeds = [("come", "ann", 0, 10), ("come", "bob", 0, 10), ("bring", "ann", 1),
                 ("claim", "bob", 0, 2, 3, ["bob", "ann"], []), ("accuse", 0, "bob", 4, 3, ["ann"], [])]
        self.assertEqual(lines(moot_of(deeds)), [
            "come ann 0 10", "come bob 0 10", "bring ann 1", "claim bob 0 2 3 + bob ann -", "accuse 0 bob 4 3 + ann -",
        ])

    def test_relived_moots(self):
        for seed in range(20):
            moot, tried = made_moot(seed, 50)
            before = deep(all_told(moot, DAYS))
            written = lines(moot)
            kept = list(written)
            again = relived(written)
            self.assertIs(type(again), Moot)
            self.assertEqual(written, kept)
            self.assertEqual(deep(all_told(again, DAYS)), before)
            self.assertEqual(lines(again), kept)
            again.come("yan", 0, 1)
            self.assertEqual(deep(all_told(moot, DAYS)), before)

    def test_a_moot_of_the_full_size(self):
        moot = full_moot(6)
        self.assertEqual(all_told(relived(lines(moot)), (45, 600)), all_told(moot, (45, 600)))
        self.assertEqual(relived(lines(moot)).roll(), moot.roll())

    def test_the_first_bad_line_raises(self):
        good = ["come ann 0 10", "come bob 0 10", "bring ann 1"]
        bad = {"penance zoe": Unknown, "penance Ann": NoDeed, "": NoDeed, "claim ann 0 2 11 + ann -": TooLight}
        for first, refusal in bad.items():
            self.assert_refused(refusal, relived, good + [first])
            for second in bad:
                self.assert_refused(refusal, relived, good + [first, second])
                self.assert_refused(refusal, relived, good + [first] + good + [second])
        self.assert_refused(Unknown, relived, ["bring ann 1"] + good)
        self.assert_refused(NoDeed, relived, ["undo"])

    def test_one_or_two_bad_lines_among_many(self):
        seen = []
        for seed in range(30):
            chance = random.Random(seed)
            written = lines(made_moot(seed, 40)[0])
            for turn in range(chance.choice((1, 2))):
                place = chance.randrange(len(written))
                written[place] = chance.choice(("penance zoe", "come ann 0", "come ann 0 1", written[place] + " ", ""))
            expected = None
            moot = Moot()
            for line in written:
                try:
                    done(moot, read_deed(line))
                except MootError as refusal:
                    expected = type(refusal)
                    break
            kept = list(written)
            if expected is None:
                self.assertEqual(relived(written).roll(), moot.roll())
            else:
                self.assert_refused(expected, relived, written)
            self.assertEqual(written, kept)
            seen.append(expected)
        self.assertGreater(len(set(seen)), 2)

    def test_no_later_line_is_looked_at(self):
        for first, refusal in (("penance zoe", Unknown), ("penance", NoDeed)):
            self.assert_refused(refusal, relived, ["come ann 0 10", first, None, 7])

    def test_told_lists_are_new(self):
        moot = moot_of([("come", "ann", 0, 10)])
        lines(moot).append("changed")
        self.assertEqual(lines(moot), ["come ann 0 10"])
        written = lines(moot)
        again = relived(written)
        written.append("penance ann")
        self.assertEqual(again.now(), 1)
