"""[9.6], [9.7]"""

import random
import unittest

from askedtrue.errors import BadText
from askedtrue.scripttext import packet_text, parse_packet, parse_script, script_text
from tests.chances import chance_script
from tests.helpers import Case, chance_plans

BIG = 10 ** 300 - 1
LETTERS = "abcdefghijklmnopqrstuvwxyz"
TEXTS = (
    (0, "0"), (7, "7"), (-2, "-2"), (10, "10"), (-100, "-100"), (BIG, "9" * 300), (-BIG, "-" + "9" * 300), (None, "-"), ("a", "a"),
    ("abcdefgh", "abcdefgh"), ("z0123459", "z0123459"), ((), "()"), ((1,), "(1)"), ((None,), "(-)"), (("a", -1), "(a -1)"),
    ((1, ("a", -2), None, ()), "(1 (a -2) - ())"), (((), ()), "(() ())"), ((((),),), "((()))"),
    (((1, (("a", (), 5), ("b", (5, -1), BIG))), (2, None)), "((1 ((a () 5) (b (5 -1) " + "9" * 300 + "))) (2 -))"))
ROWS = ["lost 0 1", "corrupted 1 1 (1 -)", "corrupted 0 2 a", "lost 11 1200"]
SCRIPT = (("lost", 0, 1), ("corrupted", 1, 1, (1, None)), ("corrupted", 0, 2, "a"), ("lost", 11, 1200))


def nested(depth, thing=()):
    """A tuple that is so many deep."""
    for _ in range(depth - 1):
        thing = (thing,)
    return thing


def chance_thing(chance, deepest, many=4):
    if deepest == 0 or chance.random() < 0.4:
        return chance.choice((None, 0, 1, -1, 10 ** chance.randint(0, 299), -BIG, "a", "b1",
                              "".join(chance.choice(LETTERS) for _ in range(chance.randint(1, 8)))))
    return tuple(chance_thing(chance, deepest - 1) for _ in range(chance.randint(0, many)))


class PacketText(Case):
    def test_there_and_back(self):
        for thing, text in TEXTS:
            self.assert_same(packet_text(thing), text)
            self.assert_same(parse_packet(text), thing)

    def test_by_chance(self):
        chance = random.Random(131)
        for _ in range(300):
            thing = chance_thing(chance, chance.randint(0, 12), chance.randint(1, 2))
            self.assert_same(parse_packet(packet_text(thing)), thing)

    def test_the_deepest(self):
        for thing in ((), (1,), (None, "a", -1)):
            text = packet_text(nested(12, thing))
            self.assertEqual(text.count("("), 12)
            self.assert_same(parse_packet(text), nested(12, thing))
            for depth in (13, 14, 100):
                self.assert_raises(BadText(0), packet_text, nested(depth, thing))
                self.assert_raises(BadText(0), packet_text, (1, nested(depth - 1, thing)))
                self.assert_raises(BadText(0), parse_packet, "(" * (depth - 12) + text + ")" * (depth - 12))
        self.assert_raises(BadText(0), packet_text, nested(300))
        self.assert_raises(BadText(0), parse_packet, "(" * 100000 + ")" * 100000)

    def test_many_things(self):
        thing = tuple(range(400))
        self.assert_same(parse_packet(packet_text(thing)), thing)
        self.assert_same(packet_text(thing), "(" + " ".join(map(str, range(400))) + ")")

    def test_things_without_a_text(self):
        for thing in (True, False, [], [1], {}, 1.0, b"a", "", "A", "1a", "a b", "abcdefghi", "a-", "-", "()", "a_", "\u00e4", object(),
                      BIG + 1, -BIG - 1, 10 ** 301, 10 ** 5000, -10 ** 5000, {1}, frozenset()):
            self.assert_raises(BadText(0), packet_text, thing)
            self.assert_raises(BadText(0), packet_text, (thing,))
            self.assert_raises(BadText(0), packet_text, (1, (("a",), thing), 2))

    def test_no_texts(self):
        for text in ("", " ", "--", "-0", "00", "01", "-01", "+1", "1.0", "1_0", "0x1", "1e3", "1 ", " 1", "a ", "\n", "1\n", "(1\n)",
                     "A", "aB", "1a", "a_", "abcdefghi", "True", "None", "(", ")", "(1", "1)", "(1))", "((1)", ")(", "()()", "() ()",
                     "1 2", "a b", "(1  2)", "( 1)", "(1 )", "( )", "(1,2)", "(1, 2)", "[1]", "(1)(2)", "((1)(2))", "(a(1))", "((1)a)",
                     "(1\t2)", "(-0)", "(01)", "(- -)x", "\u0661", "\u00b2", "(\u0661)", "\u00a0", "1\u00a0", "-a", "- 1", "(--1)",
                     "1" + "0" * 300, "-1" + "0" * 300, "0" * 301, "1" * 5000, "(" + "1" * 10000 + ")"):
            self.assert_raises(BadText(0), parse_packet, text)
        for text in (None, 1, True, b"1", (), ["1"], {}):
            self.assert_raises(BadText(0), parse_packet, text)


class ScriptText(Case):
    def test_text(self):
        self.assert_same(script_text(SCRIPT), "\n".join(ROWS))
        self.assert_same(script_text(list(SCRIPT)), "\n".join(ROWS))
        self.assert_same(script_text(()), "")
        self.assert_same(script_text([("corrupted", 3, 0, (("a",), -5))]), "corrupted 3 0 ((a) -5)")

    def test_parse(self):
        self.assert_same(parse_script("\n".join(ROWS)), SCRIPT)
        self.assert_same(parse_script(""), ())
        self.assert_same(parse_script("lost 0 0"), (("lost", 0, 0),))
        self.assert_same(parse_script("corrupted 0 0 ()"), (("corrupted", 0, 0, ()),))
        self.assert_same(parse_script("corrupted 0 0 0\nlost 1 0"), (("corrupted", 0, 0, 0), ("lost", 1, 0)))

    def test_ways_and_turns_are_not_asked_for(self):
        script = (("lost", 999, 0), ("corrupted", BIG, BIG, BIG))
        self.assert_same(parse_script(script_text(script)), script)

    def test_by_chance(self):
        chance = random.Random(132)
        for plan in chance_plans(133, 80, 6):
            script = tuple(bad if bad[0] == "lost" else (*bad[:3], chance.choice((bad[3], chance_thing(chance, 3), 0)))
                           for bad in chance_script(chance, plan, 30))
            wrong = [at for at, bad in enumerate(script) if bad[0] == "corrupted" and not self.has_text(bad[3])]
            if wrong:
                self.assert_raises(BadText(wrong[0]), script_text, script)
            elif not any(bad[3:] == (None,) for bad in script):
                self.assert_same(parse_script(script_text(script)), script)

    def has_text(self, packet):
        try:
            packet_text(packet)
        except BadText:
            return False
        return True

    def test_packets_without_a_text(self):
        for thing in (True, [], "A", BIG + 1, {}, (1, [2]), nested(13)):
            for at in range(3):
                script = [("lost", 0, beat) for beat in range(at)] + [("corrupted", 0, 5, thing), ("corrupted", 1, 5, "B")]
                self.assert_raises(BadText(at), script_text, script)

    def test_wrong_rows(self):
        for row in ("", " ", "lost", "lost ", "lost 1", "lost 1 ", "lost 1 1 ", "lost 1 1 1", " lost 1 1", "lost  1 1", "lost 1  1",
                    "Lost 1 1", "lost 01 1", "lost 1 01", "lost 00 1", "lost -1 1", "lost +1 1", "lost -0 1", "lost 1 -0", "lost a 1",
                    "lost 1 -", "lost 1.0 1", "lost 1\t1", "lost 1 1\r", "lost \u0661 1", "lost 1 \u00b2", "lost 1_0 1", "lose 1 1",
                    "corrupted", "corrupted 1", "corrupted 1 1", "corrupted 1 1 ", "corrupted 1 1 -", "corrupted 1 1  1",
                    "corrupted 1 1 1 ", "corrupted 1 1 1 2", "corrupted 1 1 (1", "corrupted 1 1 (1))", "corrupted 1 1 01",
                    "corrupted 1 1 -0", "corrupted 1 1 A", "corrupted 1 01 1", "corrupted 01 1 1", "corrupted  1 1 1",
                    "Corrupted 1 1 1", "corrupt 1 1 1", "clean 1 1", "lost 1 " + "1" * 301, "lost " + "1" * 301 + " 1",
                    "lost 1 " + "1" * 10000, "corrupted 1 1 " + "1" * 301, "corrupted 1 1 " + "1" * 9999,
                    "corrupted 1 1 " + "(" * 13 + ")" * 13, "-", "()", "lost 1 1 -", "lost,1,1"):
            self.assert_raises(BadText(0), parse_script, row if row else "\n")
            for at in range(4):
                rows = [*ROWS[:at], row, *ROWS[at + 1:], "x"]
                self.assert_raises(BadText(at), parse_script, "\n".join(rows))

    def test_a_line_feed_at_the_end(self):
        self.assert_raises(BadText(4), parse_script, "\n".join(ROWS) + "\n")
        self.assert_raises(BadText(0), parse_script, "\n")
        self.assert_raises(BadText(0), parse_script, "\n" + ROWS[0])
        self.assert_raises(BadText(1), parse_script, "lost 0 1\n\nlost 0 2")

    def test_other_ends_of_lines(self):
        for end in ("\r\n", "\r", "\x0b", "\x0c", "\x1c", "\x85", "\u2028"):
            self.assert_raises(BadText(0), parse_script, end.join(ROWS))

    def test_order(self):
        for rows, at in ((("lost 1 5", "lost 1 5"), 1), (("lost 1 5", "lost 0 5"), 1), (("lost 1 5", "corrupted 1 5 0"), 1),
                         (("lost 0 5", "lost 1 5", "lost 9 4"), 2), (("lost 0 5", "lost 0 6", "lost 0 10", "lost 0 9"), 3)):
            self.assert_raises(BadText(at), parse_script, "\n".join(rows))
        self.assert_same(len(parse_script("lost 2 9\nlost 10 9\nlost 0 10\ncorrupted 1 10 0")), 4)

    def test_no_string(self):
        for text in (None, 1, True, b"lost 0 1", [], ["lost 0 1"], ()):
            self.assert_raises(BadText(0), parse_script, text)


if __name__ == "__main__":
    unittest.main()
