"""The desk: its texts, its answers, its refusals and their order [2, 26, 27]."""

import random
import unittest

from freshrooms.desk import Desk
from freshrooms.errors import NoFit, NoName, NoRow, NotSingle, NoText, TooGreat
from freshrooms.rowtexts import read_row, show_row
from tests.oracles import GOOD_BY, is_single_slowly, let_slowly, plain_slowly, rows_of
from tests.samples import check_refused

# Lets by the rows of a whose first name comes again at the end.
SEEN = "signs a\nroom 0\na fresh 1 new\nroom 1\na 0 2 0\na fresh 1 0\nroom 1 good\na 0 2 0\na fresh 1 0"

# Lets by the rows of a whose last two names are one.
TWICE = "signs a\nroom 0\na fresh 1 new\nroom 1\na 0 2 0\na fresh 1 new\nroom 1 good\na 0 2 0\na fresh 1 new"

# The same rows as SEEN, with more rooms and keepers than it needs.
SEEN_AGAIN = (
    "signs a\nroom 0\na any 2 new none\nroom 2 good\na 1 1 1 1\na fresh 2 1 new\nroom 2\na 0 3 0 none\na fresh 2 0 none\n"
    "room 2 good\na 0 3 0 0\na fresh 2 0 none"
)

OTHER_SIGNS = "signs a b\nroom 0 good\na any 0\nb any 0"

NEVER = "signs a\nroom 0"
ALWAYS = "signs a\nroom 0 good\na any 0"

NOT_SINGLE = "signs a\nroom 0\na any 0\na fresh 0"

# Its plain form has fifteen rooms.
GREAT = "signs a b c\nroom 3 good\na any 0 new 0 1\nb any 0 none 0 1\nc any 0 1 2 0"


def ring(many, good=0):
    """A ring of so many rooms, of which this one is good."""
    lines = ["signs a"]
    for room in range(many):
        lines += ["room 0 good" if room == good else "room 0", f"a any {(room + 1) % many}"]
    return "\n".join(lines)


def full_desk():
    desk = Desk()
    for name, text in [
        ("seen", SEEN), ("twice", TWICE), ("again", SEEN_AGAIN), ("other", OTHER_SIGNS), ("never", NEVER), ("always", ALWAYS),
        ("great", GREAT), ("five", ring(5)), ("eight", ring(8)), ("nine", ring(9)),
    ]:
        assert desk.say(f"keep {name} {text}") == "ok"
    return desk


NAMES = ["seen", "twice", "again", "other", "never", "always", "great", "five", "eight", "nine", "a", "b", "none"]


def picture(desk):
    """What is answered of each name that a test may have touched."""
    told = []
    for name in NAMES:
        try:
            told.append([desk.say(f"shapes {name} {many}") for many in range(5)] + [desk.say(f"turn z {name}"), desk.say("drop z")])
        except NoName:
            told.append(None)
    return told


class TextsTest(unittest.TestCase):
    def test_kept_and_shown(self):
        desk = Desk()
        self.assertEqual(desk.say("keep a " + SEEN), "ok")
        self.assertEqual(desk.say("show a"), SEEN)
        self.assertEqual(desk.say("keep b " + NEVER), "ok")
        self.assertEqual(desk.say("show b"), NEVER)
        self.assertEqual(desk.say("show a"), SEEN)
        self.assertEqual(desk.say("keep a " + OTHER_SIGNS), "ok")
        self.assertEqual(desk.say("show a"), "signs a b\nroom 0 good\na fresh 0\nb fresh 0")

    def test_it_is_the_plain_form_that_is_kept(self):
        desk = Desk()
        desk.say("keep a signs a b\nroom 2\na any 1 new none\nroom 2 good\nb 0 0 none none\na any 1 0 0\nroom 0 good")
        self.assertEqual(desk.say("show a"), (
            "signs a b\nroom 0\na fresh 1 new\nroom 1 good\na 0 2 0\na fresh 2 0\nb 0 0\nroom 1 good\na 0 2 0\na fresh 2 0\nb 0 0"
        ))

    def test_dropped(self):
        desk = Desk()
        desk.say("keep a " + SEEN)
        desk.say("keep b " + TWICE)
        self.assertEqual(desk.say("drop a"), "ok")
        check_refused(self, NoName, desk.say, "show a")
        check_refused(self, NoName, desk.say, "drop a")
        self.assertEqual(desk.say("show b"), TWICE)

    def test_names_used_again_when_dropped(self):
        desk = Desk()
        for text in [SEEN, TWICE, NEVER, SEEN]:
            self.assertEqual(desk.say("keep abcdefgh " + text), "ok")
            self.assertEqual(desk.say("show abcdefgh"), text)
            self.assertEqual(desk.say("drop abcdefgh"), "ok")
            check_refused(self, NoName, desk.say, "let abcdefgh -")

    def test_let(self):
        desk = full_desk()
        for name, row, told in [
            ("seen", "-", "no"), ("seen", "a:1", "no"), ("seen", "a:1 a:1", "yes"), ("seen", "a:1 a:2 a:1", "yes"),
            ("seen", "a:1 a:2 a:2", "no"), ("twice", "a:1 a:2 a:2", "yes"), ("always", "-", "yes"), ("never", "-", "no"),
            ("always", " ".join(["a:-7"] * 60), "yes"), ("always", "b:1", "no"), ("always", "a:1 zz:1", "no"),
            ("seen", "a:" + "9" * 60 + " a:-" + "9" * 60 + " a:" + "9" * 60, "yes"), ("great", "a:1 b:2 c:3", "yes"),
        ]:
            with self.subTest(name=name, row=row):
                self.assertEqual(desk.say(f"let {name} {row}"), told)

    def test_same(self):
        desk = full_desk()
        for one, other in [("seen", "seen"), ("seen", "again"), ("again", "seen"), ("never", "never"), ("five", "five")]:
            self.assertEqual(desk.say(f"same {one} {other}"), "yes")
        self.assertEqual(desk.say("same always never"), "no -")
        for one, other, size in [("seen", "twice", 3), ("twice", "again", 3), ("seen", "never", 2), ("five", "eight", 5), ("always", "five", 1)]:
            answer = desk.say(f"same {one} {other}")
            self.assertTrue(answer.startswith("no "))
            row = answer[3:]
            self.assertEqual(len(read_row(row)), size)
            self.assertEqual(show_row(read_row(row)), row)
            self.assertNotEqual(desk.say(f"let {one} {row}"), desk.say(f"let {other} {row}"))

    def test_least(self):
        desk = full_desk()
        self.assertEqual(desk.say("least a again"), "ok")
        self.assertEqual(desk.say("show a"), SEEN)
        self.assertEqual(desk.say("same a again"), "yes")
        self.assertNotEqual(desk.say("show again"), SEEN)

    def test_turn(self):
        desk = full_desk()
        self.assertEqual(desk.say("turn a never"), "ok")
        self.assertEqual(desk.say("show a"), "signs a\nroom 0 good\na fresh 1\nroom 0 good\na fresh 1")
        self.assertEqual(desk.say("same a always"), "yes")
        self.assertEqual(desk.say("turn b seen"), "ok")
        self.assertEqual(desk.say("show b"), SEEN.replace(" good", "").replace("room 0", "room 0 good").replace("room 1", "room 1 good", 1))

    def test_join(self):
        for word, told in [("both", "a:0 a:0 a:0"), ("either", "a:0 a:0 a:0, a:0 a:1 a:0, a:0 a:1 a:1"), ("first", "a:0 a:1 a:0"),
                           ("one", "a:0 a:1 a:0, a:0 a:1 a:1")]:
            desk = full_desk()
            self.assertEqual(desk.say(f"join {word} a seen twice"), "ok")
            self.assertEqual(desk.say("shapes a 3"), told)
        self.assertEqual(desk.say("show a"), (
            "signs a\nroom 0\na fresh 1 new\nroom 1\na 0 2 0\na fresh 3 0 new\nroom 1\na 0 2 0\na fresh 3 0 new\nroom 2\na 0 4 0\n"
            "a 1 5 0 1\na fresh 3 0 new\nroom 1 good\na 0 2 0\na fresh 3 0 new\nroom 2 good\na 0 4 0\na 1 5 0 1\na fresh 3 0 new"
        ))

    def test_just_forty_rooms(self):
        desk = full_desk()
        self.assertEqual(desk.say("join both a five eight"), "ok")
        self.assertEqual(desk.say("let a " + " ".join(["a:1"] * 40)), "yes")
        self.assertEqual(desk.say("let a " + " ".join(["a:1"] * 20)), "no")
        check_refused(self, TooGreat, desk.say, "join both b five nine")
        check_refused(self, TooGreat, desk.say, "show a")

    def test_shapes(self):
        desk = full_desk()
        for name, many, told in [
            ("always", 0, "-"), ("always", 1, "a:0"), ("always", 2, "a:0 a:0, a:0 a:1"), ("never", 0, "none"), ("never", 4, "none"),
            ("other", 1, "a:0, b:0"), ("seen", 0, "none"), ("seen", 2, "a:0 a:0"),
            ("always", 3, "a:0 a:0 a:0, a:0 a:0 a:1, a:0 a:1 a:0, a:0 a:1 a:1, a:0 a:1 a:2"),
            ("seen", 4, "a:0 a:0 a:0 a:0, a:0 a:0 a:1 a:0, a:0 a:1 a:0 a:0, a:0 a:1 a:1 a:0, a:0 a:1 a:2 a:0"),
        ]:
            self.assertEqual(desk.say(f"shapes {name} {many}"), told)

    def test_new_the_same_as_one(self):
        desk = full_desk()
        self.assertEqual(desk.say("least again again"), "ok")
        self.assertEqual(desk.say("show again"), SEEN)
        self.assertEqual(desk.say("turn again again"), "ok")
        self.assertEqual(desk.say("let again -"), "yes")
        self.assertEqual(desk.say("turn again again"), "ok")
        self.assertEqual(desk.say("same again seen"), "yes")
        self.assertEqual(desk.say("join both twice seen twice"), "ok")
        self.assertEqual(desk.say("shapes twice 3"), "a:0 a:0 a:0")
        self.assertEqual(desk.say("join one seen seen seen"), "ok")
        self.assertEqual(desk.say("same seen never"), "yes")
        self.assertEqual(desk.say("join first twice twice never"), "ok")
        self.assertEqual(desk.say("shapes twice 3"), "a:0 a:0 a:0")

    def test_new_takes_the_place_of_another(self):
        desk = full_desk()
        self.assertEqual(desk.say("least never seen"), "ok")
        self.assertEqual(desk.say("show never"), SEEN)
        self.assertEqual(desk.say("keep seen " + NEVER), "ok")
        self.assertEqual(desk.say("show never"), SEEN)

    def test_a_desk_beside_another_one(self):
        one, other = Desk(), Desk()
        one.say("keep a " + SEEN)
        check_refused(self, NoName, other.say, "show a")
        other.say("keep a " + TWICE)
        one.say("turn b a")
        check_refused(self, NoName, other.say, "drop b")
        other.say("drop a")
        self.assertEqual(one.say("show a"), SEEN)

    def test_names_like_the_words_of_texts(self):
        desk = Desk()
        for name in ["keep", "drop", "show", "let", "same", "least", "turn", "join", "shapes", "none", "both", "ok", "a", "signs"]:
            self.assertEqual(desk.say(f"keep {name} {SEEN}"), "ok")
            self.assertEqual(desk.say(f"show {name}"), SEEN)
        self.assertEqual(desk.say("join both join keep drop"), "ok")
        self.assertEqual(desk.say("same join same"), "yes")

    def test_forty_names(self):
        desk = Desk()
        names = [first + second for first in "abcdefgh" for second in "vwxyz"]
        for number, name in enumerate(names):
            desk.say(f"keep {name} " + ring(number % 5 + 1))
        for number, name in enumerate(names):
            self.assertEqual(desk.say(f"show {name}"), ring(number % 5 + 1).replace("any", "fresh"))

    def test_its_kinds(self):
        desk = full_desk()
        for text in ["turn a seen", "show a", "let a -", "same a a", "same a seen", "least b a", "join both a a b", "shapes a 1", "drop a"]:
            self.assertIs(type(desk.say(text)), str)


# Each text with its refusal, on a full desk.
REFUSED = [
    (NoRow, [
        "", " ", "  ", "\n", "a", "keep", "keep ", "keep a", "keep seen", "Keep a " + SEEN, "keepa " + SEEN, " keep a " + SEEN,
        "drop", "drop a b", "drop seen ", " drop seen", "drop  seen", "drop seen twice", "dropseen", "drop\nseen", "DROP seen",
        "show", "show seen ", "show  seen", " show seen", "show seen again", "shows seen", "show\nseen", "\nshow seen",
        "let", "let ", "let seen", "lets seen -", " let seen -", "let\nseen -",
        "same", "same seen", "same seen seen ", "same  seen seen ", "same seen  seen", "same seen twice again",
        "same\nseen seen", "same\nseen seen seen",
        "least", "least a", "least a seen twice", "least a  seen", "turn", "turn a", "turn a seen ", " turn a seen",
        "turn a seen twice", "least a seen ",
        "join", "join both", "join both a", "join both a seen", "join both a seen twice ", "join both a seen  twice",
        "join both a seen twice again", "join  both a seen twice", "join Both a seen twice", "join neither a seen twice",
        "join  a seen twice", "join both\n a seen twice", "join bot a seen twice", "join bothone a seen twice", "join a seen twice",
        "shapes", "shapes seen", "shapes seen ", "shapes seen 12", "shapes seen 00", "shapes seen x", "shapes seen -1",
        "shapes seen 1 ", "shapes seen  1", "shapes seen 1 2", "shapes seen 1\n", "shapes seen \n", "shapes seen +", "shapes 1 seen",
        "what seen", "ok", "yes", "none", "keep\na " + SEEN, "exit", "-",
    ]),
    (NoName, [
        "keep  ", "keep  " + SEEN, "keep A " + SEEN, "keep abcdefghi " + SEEN, "keep a1 " + SEEN, "keep - " + SEEN, "keep a\n " + SEEN,
        "keep \na " + SEEN, "keep a\n" + SEEN, "keep a: " + SEEN,
        "drop ", "drop a", "drop A", "drop Seen", "drop seen\n", "drop \nseen", "drop abcdefghi",
        "show ", "show a", "show SEEN", "show seen\n", "show 1", "show -",
        "let  -", "let a -", "let seen\n -", "let  seen -", "let Seen a:1", "let b ", "let a:1 a:1",
        "same  ", "same seen ", "same  seen", "same a seen", "same seen a", "same a b", "same A seen", "same seen SEEN", "same seen seen\n",
        "least  seen", "least a b", "least A seen", "least a ", "least a SEEN", "least abcdefghi seen", "least a\n seen", "least a seen\n",
        "turn  seen", "turn a b", "turn A seen", "turn a ", "turn a1 seen", "turn a seen\n", "turn  ",
        "join both  seen twice", "join both A seen twice", "join both a b twice", "join both a seen b", "join both a  twice",
        "join both a seen ", "join both abcdefghi seen twice", "join one a\n seen twice", "join one a seen twice\n",
        "shapes a 1", "shapes  1", "shapes Seen 1", "shapes seen\n 1",
    ]),
    (NoText, [
        "keep a ", "keep a  " + SEEN, "keep a " + SEEN + " ", "keep a " + SEEN + "\n", "keep a \n" + SEEN, "keep a signs", "keep a signs a",
        "keep a seen", "keep a signs a\nroom 0\na any 1", "keep a signs b a\nroom 0", "keep seen ", "keep seen room 0",
        "keep a signs a\nroom 4", "keep a " + NEVER.replace("signs", "Signs"), "keep a " + "\n".join(["signs a"] + ["room 0"] * 13),
        "let seen ", "let seen  ", "let seen  -", "let seen - ", "let seen a", "let seen a:1 ", "let seen a:1  a:1", "let seen a:01",
        "let seen a:-0", "let seen A:1", "let seen a:1\n", "let seen \n", "let seen --", "let seen " + " ".join(["a:1"] * 61),
        "let seen a:1" + "0" * 60, "let seen a:1,a:2", "let great x",
    ]),
    (NotSingle, [
        "keep a " + NOT_SINGLE, "keep seen " + NOT_SINGLE,
        "keep a signs a\nroom 0\na fresh 1 new new\nroom 2\na 0 0\na 1 0", "keep a signs a\nroom 0\na any 0\na any 0",
    ]),
    (NoFit, [
        "same seen other", "same other seen", "same great other", "same great seen", "join both a seen other", "join one a other seen",
        "join first a great other", "join either seen seen great",
    ]),
    (TooGreat, [
        "show great", "same great great", "least a great", "least great great", "join both a great great", "join one a five nine",
        "join first a nine five", "shapes seen 5", "shapes seen 9", "shapes great 6", "shapes seen 7",
    ]),
]


class RefusedTest(unittest.TestCase):
    def test_each_text(self):
        desk = full_desk()
        for refusal, texts in REFUSED:
            for text in texts:
                with self.subTest(text=text):
                    check_refused(self, refusal, desk.say, text)

    def test_what_is_refused_changes_nothing(self):
        desk = full_desk()
        before = picture(desk)
        self.assertEqual([told is None for told in before], [False] * 10 + [True] * 3)
        for refusal, texts in REFUSED:
            for text in texts:
                try:
                    desk.say(text)
                except refusal:
                    pass
        self.assertEqual(picture(desk), before)
        self.assertEqual(desk.say("show seen"), SEEN)

    def test_several_at_once(self):
        desk = full_desk()
        for refusal, text in [
            # a text that is none, ahead of names
            (NoRow, "join nor A b c"), (NoRow, "shapes A 10"), (NoRow, "shapes b x"), (NoRow, "keep A"), (NoRow, "same A B C"),
            (NoRow, "let A"), (NoRow, "join nor a seen other"), (NoRow, "shapes seen 55"), (NoRow, "drop A "),
            # a name ahead of what is asked for
            (NoName, "keep A "), (NoName, "keep A " + NOT_SINGLE), (NoName, "keep A signs"), (NoName, "let a "), (NoName, "let A x"),
            (NoName, "same great b"), (NoName, "same b great"), (NoName, "least A great"), (NoName, "join both A seen other"),
            (NoName, "join both A great great"), (NoName, "join both a great b"), (NoName, "join both a b great"), (NoName, "shapes b 9"),
            (NoName, "shapes A 5"),
            # a text that is no machine, ahead of one that isn't told singly
            (NoText, "keep a " + NOT_SINGLE + "\n"), (NoText, "keep a " + NOT_SINGLE + "\na any 7"),
            # unlike signs, ahead of machines that aren't small
            (NoFit, "same great seen"), (NoFit, "same seen great"), (NoFit, "join both a great five"),
        ]:
            with self.subTest(text=text):
                check_refused(self, refusal, desk.say, text)

    def test_keep_with_and_without_a_blank_behind(self):
        desk = Desk()
        check_refused(self, NoRow, desk.say, "keep a")
        check_refused(self, NoText, desk.say, "keep a ")
        check_refused(self, NoText, desk.say, "keep a  ")
        check_refused(self, NoName, desk.say, "show a")

    def test_an_empty_desk(self):
        for text in ["drop a", "show a", "let a -", "same a a", "least a a", "turn a a", "join one a a a", "shapes a 0"]:
            check_refused(self, NoName, Desk().say, text)

    def test_great_machines_are_let_turned_and_looked_at(self):
        desk = full_desk()
        self.assertEqual(desk.say("turn a great"), "ok")
        self.assertEqual(desk.say("let a a:1 b:1"), "no")
        self.assertEqual(desk.say("shapes a 4"), "none")
        self.assertEqual(desk.say("turn a nine"), "ok")
        self.assertEqual(desk.say("shapes great 1"), "a:0, b:0, c:0")

    def test_thirteen_rooms(self):
        """The turned machine of one of twelve rooms may have one more: then it isn't small."""
        desk = Desk()
        text = ring(12).replace("a any 0", "b any 0").replace("signs a", "signs a b")
        self.assertEqual(desk.say("keep a " + text), "ok")
        self.assertEqual(desk.say("show a"), text.replace("any", "fresh"))
        self.assertEqual(desk.say("turn b a"), "ok")
        for refused in ["show b", "least c b", "same a b", "same b b", "join both c b b", "join one c a b"]:
            check_refused(self, TooGreat, desk.say, refused)
        self.assertEqual(desk.say("let b -"), "no")
        self.assertEqual(desk.say("let b b:1 b:2"), "yes")


class SessionTest(unittest.TestCase):
    """A desk told many texts, beside what rows its machines are to let by."""

    ROWS = [row for size in range(4) for row in rows_of(["a", "b"], size)]

    def lets(self, rule, row):
        """By a rule: a plain machine, or a tuple of a word and the rules that it joins or turns."""
        if isinstance(rule[0], list):
            return let_slowly(rule, row)
        if rule[0] == "turn":
            return not self.lets(rule[1], row)
        return GOOD_BY[rule[0]](self.lets(rule[1], row), self.lets(rule[2], row))

    def chance_text(self, chance):
        lines = ["signs a b", "room 0 good" if chance.random() < 0.5 else "room 0"]
        for own in [0, 1]:
            for sign in "ab":
                for asks in chance.sample(["fresh", 0][:own + 1], chance.randint(1, own + 1)):
                    to = chance.randint(0, 1)
                    lines.append(f"{sign} {asks} {to}" + (" " + chance.choice(["new", "none", "0"][:own + 2]) if to else ""))
            if own == 0:
                lines.append("room 1 good" if chance.random() < 0.5 else "room 1")
        return "\n".join(lines)

    def machine_told(self, text):
        rooms = []
        for line in text.split("\n")[1:]:
            words = line.split(" ")
            if words[0] == "room":
                rooms.append((int(words[1]), len(words) == 3, []))
            else:
                asks = words[1] if words[1] == "fresh" else int(words[1])
                fills = [None if word == "none" else word if word == "new" else int(word) for word in words[3:]]
                rooms[-1][2].append((words[0], asks, int(words[2]), tuple(fills)))
        return (["a", "b"], rooms)

    def test_many_texts(self):
        chance = random.Random(1)
        great = 0
        for turn in range(25):
            desk, rules = Desk(), {}
            for number in range(25):
                new = chance.choice("abcd")
                if len(rules) < 2 or chance.random() < 0.3:
                    text = self.chance_text(chance)
                    machine = self.machine_told(text)
                    self.assertTrue(is_single_slowly(machine))
                    self.assertEqual(desk.say(f"keep {new} {text}"), "ok")
                    rules[new] = plain_slowly(machine)[0]
                    continue
                one, other = chance.choice(sorted(rules)), chance.choice(sorted(rules))
                word = chance.choice(["least", "turn", "drop", "both", "either", "first", "one", "same", "shapes"])
                try:
                    great += self.say_word(desk, rules, word, new, one, other)
                except TooGreat:
                    great += 1
                for name in sorted(rules):
                    row = chance.choice(self.ROWS)
                    self.assertEqual(desk.say(f"let {name} {show_row(row)}"), "yes" if self.lets(rules[name], row) else "no")
        self.assertLess(great, 150)

    def say_word(self, desk, rules, word, new, one, other):
        if word == "drop":
            self.assertEqual(desk.say(f"drop {one}"), "ok")
            rules.pop(one)
        elif word == "least":
            self.assertEqual(desk.say(f"least {new} {one}"), "ok")
            rules[new] = rules[one]
        elif word == "turn":
            self.assertEqual(desk.say(f"turn {new} {one}"), "ok")
            rules[new] = ("turn", rules[one])
        elif word in GOOD_BY:
            self.assertEqual(desk.say(f"join {word} {new} {one} {other}"), "ok")
            rules[new] = (word, rules[one], rules[other])
        elif word == "same":
            answer = desk.say(f"same {one} {other}")
            parted = [row for row in self.ROWS if self.lets(rules[one], row) != self.lets(rules[other], row)]
            if parted:
                row = read_row(answer[3:])
                self.assertEqual((answer[:3], len(row)), ("no ", min(map(len, parted))))
                self.assertNotEqual(self.lets(rules[one], row), self.lets(rules[other], row))
            else:
                self.assertTrue(answer == "yes" or len(read_row(answer[3:])) > 3)
        else:
            told = [show_row(row) for row in rows_of(["a", "b"], 2) if self.lets(rules[one], row)]
            self.assertEqual(desk.say(f"shapes {one} 2"), ", ".join(told) or "none")
        return 0


if __name__ == "__main__":
    unittest.main()
