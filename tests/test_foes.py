"""[10.2] to [10.7], and the second half of [0.3]"""

import unittest

from askedtrue.errors import BadFoe, BadOrder, BadProgram
from askedtrue.foes import Broken, Foe, Game, Pair, broken_fault
from askedtrue.lots import Budgets
from askedtrue.nets import Net
from askedtrue.orders import Event, Order
from askedtrue.passages import passages
from askedtrue.plans import Plan
from askedtrue.runjudge import Right, Wrong, judge_run
from askedtrue.runner import run, view
from askedtrue.scripts import script_fault
from askedtrue.tellers import teller
from askedtrue.times import earliest
from askedtrue.worlds import World, false_ask, true_beat, true_run
from tests.chances import is_small
from tests.helpers import Case, chain, chance_plans, line, two_ends
from tests.programs import KINDS, believer, fewer, follower, guesser, lister, silent

ORDER = Order([Event("a", 1, "query"), Event("b", 2, "query", ("a",)), Event("c", 1, "action", ("b",))])
PLAN = Plan(ORDER, two_ends(), Budgets([(1, 1)]))


def entry_of(order, world, name):
    return true_run(order, world)[order.place(name)]


def up_to(beat, told):
    """What was sent, heard and asked up to the beat."""
    return [[row for row in rows if row[0] <= beat] for rows in (told.sent, told.heard, told.asks)]


class Judge:
    """Holds every line of [10.3] and [10.4] against a game."""

    def __init__(self, case, plan, name, program):
        self.case, self.plan, self.name, self.program = case, plan, name, program
        self.foe = Foe(plan, name)
        self.beat = earliest(plan, name).beat

    def run(self, world, script):
        return run(self.plan.net, self.plan.order, world, self.program, script, self.beat - 1)

    def check(self):
        case, held = self.case, passages(self.plan, self.name)
        begun = []

        def counting(memory, word):
            if word == ("begin", 1):
                begun.append(word)
            return self.program(memory, word)
        game = self.foe.game(counting)
        turns = sum(len(passage.held) for passage in held)
        case.assertLessEqual(len(begun), 2 * turns + 5 * len(earliest(self.plan, self.name).path))
        case.assertIs(type(game), Game)
        case.assertIs(type(game.pairs), tuple)
        case.assertEqual([pair.passage for pair in game.pairs], list(held[:len(game.pairs)]))
        firsts = []
        for at, pair in enumerate(game.pairs):
            self.check_worlds(pair)
            self.check_scripts(pair, held[:at + 1])
            first, second = self.run(pair.world, pair.script), self.run(pair.other, pair.twin)
            self.check_views(pair, first, second)
            self.check_asks(pair, first, second)
            if at:
                elder = game.pairs[at - 1].script
                case.assertEqual(pair.script[:len(elder)], elder)
            for number, told in enumerate(firsts):
                beat = held[number].beat - 1
                case.assertEqual(up_to(beat, told), up_to(beat, first))
            firsts.append(first)
            false = (false_ask(self.plan.order, pair.world, first.asks), false_ask(self.plan.order, pair.other, second.asks))
            if at < len(game.pairs) - 1:
                case.assertEqual(false, (None, None))
        self.check_broken(game, held, firsts[-1], false)
        case.assertEqual(self.foe.against(self.program), game.broken)
        return game

    def check_worlds(self, pair):
        order, step = self.plan.order, pair.passage.crossing
        one, other = (entry_of(order, world, step.elder) for world in (pair.world, pair.other))
        self.case.assertEqual(one[1], other[1])
        self.case.assertNotEqual(one[2], other[2])
        self.case.assertEqual(pair.other, pair.world.with_entry(step.elder, one[1], other[2]))
        self.case.assertNotEqual(*(entry_of(order, world, step.name)[1] for world in (pair.world, pair.other)))

    def check_scripts(self, pair, held):
        def places(script, word):
            return [(bad[2], bad[1]) for bad in script if bad[0] == word]

        def turns(passed, kind):
            return [(turn.beat, turn.way) for passage in passed for turn in passage.held if turn.kind == kind]
        self.case.assertEqual(places(pair.script, "corrupted"), turns(held, 2))
        self.case.assertEqual(places(pair.script, "lost"), turns(held, 3))
        self.case.assertEqual(places(pair.twin, "corrupted"), turns(held[:-1], 2) + turns(held[-1:], 1))
        self.case.assertEqual(places(pair.twin, "lost"), turns(held, 3))
        for script in (pair.script, pair.twin):
            self.case.assertIsNone(script_fault(self.plan.net, self.plan.budgets, script))

    def check_views(self, pair, first, second):
        net, beat = self.plan.net, pair.passage.start
        held = [(turn.way, turn.beat) for turn in pair.passage.held]
        for number in pair.passage.crossing.ways:
            way = net.ways[number]
            beat += 1
            while beat % net.period != way.phase or (number, beat) in held:
                beat += 1
            beat += way.delay
            for end in range(1, net.ends + 1):
                if number in net.route(way.source, end):
                    self.case.assert_same(view(net, first, end, beat - 1), view(net, second, end, beat - 1))
        self.case.assertEqual(beat, pair.passage.beat)

    def check_asks(self, pair, first, second):
        name, beat = pair.passage.crossing.name, pair.passage.beat
        if self.plan.order.event(name).kind == "query":
            asked = true_beat(self.plan.order, pair.world, first.asks, name)
            self.case.assertTrue(asked is None or asked >= beat)
            return
        asks = [ask for ask in first.asks if ask[2] == name and ask[0] < beat]
        self.case.assertEqual([ask[:4] for ask in asks], [ask[:4] for ask in second.asks if ask[2] == name and ask[0] < beat])
        keys = [entry_of(self.plan.order, world, name)[1] for world in (pair.world, pair.other)]
        for ask in asks[:1]:
            self.case.assertIn(False, [ask[3] == key for key in keys])

    def check_broken(self, game, held, first, false):
        case, broken, last = self.case, game.broken, game.pairs[-1]
        told = self.run(broken.world, broken.script)
        at = false_ask(self.plan.order, broken.world, told.asks)
        case.assertIsNone(script_fault(self.plan.net, self.plan.budgets, broken.script))
        if false != (None, None):
            case.assertIn((broken.world, broken.script), [(last.world, last.script), (last.other, last.twin)])
            case.assertIsNotNone(at)
        else:
            case.assertEqual(len(game.pairs), len(held))
            case.assertEqual(broken.script, last.script)
            case.assertEqual(told, first)
        if at is None:
            case.assert_same((broken.word, broken.name, broken.beat), ("late", self.name, self.beat - 1))
            case.assertIsNone(true_beat(self.plan.order, broken.world, told.asks, self.name))
        else:
            case.assert_same((broken.word, broken.name, broken.beat), ("false", told.asks[at][2], told.asks[at][0]))
        case.assertIsNone(broken_fault(self.plan, self.name, self.program, broken))


class Results(Case):
    def test_results(self):
        self.assert_equals(lambda: Pair(1, 2, 3, 4, 5), [Pair(*[9 if at == place else at + 1 for at in range(5)]) for place in range(5)])
        self.assert_equals(lambda: Broken(1, 2, 3, 4, 5), [Broken(*[9 if at == place else at + 1 for at in range(5)])
                                                           for place in range(5)])
        self.assert_equals(lambda: Game((1,), 2), [Game((), 2), Game((1,), 1)])
        self.assertEqual(Pair(passage=5, twin=4, script=3, other=2, world=1), Pair(1, 2, 3, 4, 5))
        self.assertEqual(Broken(beat=5, name=4, script=3, world=2, word=1), Broken(1, 2, 3, 4, 5))
        self.assertEqual(Game(broken=2, pairs=1), Game(1, 2))

    def test_foe(self):
        foe = Foe(PLAN, "c")
        self.assertIs(foe.plan, PLAN)
        self.assert_same((foe.name, foe.beat), ("c", 5))
        self.assertEqual(foe.passages, passages(PLAN, "c"))
        self.assert_equals(lambda: Foe(PLAN, "c"), [Foe(PLAN, "b"), Foe(PLAN.with_budgets(Budgets([(1, 0)])), "c")])

    def test_refused(self):
        for name in ("x", None, 3, ["c"]):
            self.assert_raises(BadOrder("unknown", name), Foe, PLAN, name)
            self.assert_raises(BadOrder("unknown", name), broken_fault, PLAN, name, None, None)
        alone = Plan(chain(2, 2), two_ends(), Budgets([(8, 0)]))
        for plan, name in ((PLAN, "a"), (alone, "b"), (Plan(chain(1, 1), Net(1, 1, ()), Budgets(())), "b")):
            self.assert_raises(BadFoe("zero"), Foe, plan, name)
            self.assert_raises(BadFoe("zero"), broken_fault, plan, name, None, None)


class Games(Case):
    def test_against_programs_of_several_kinds(self):
        words = []
        for plan in chance_plans(151, 90, 7):
            if not is_small(plan):
                continue
            for number, name in enumerate(plan.order.names):
                if 0 < earliest(plan, name).beat <= 50:
                    for kind in (KINDS[number % len(KINDS)], KINDS[(number + 3) % len(KINDS)]):
                        words.append(Judge(self, plan, name, kind(plan)).check().broken.word)
        self.assertGreater(words.count("late"), 50)
        self.assertGreater(words.count("false"), 20)

    def test_the_teller_is_late_and_by_no_more(self):
        for plan in chance_plans(152, 60, 7):
            for name in plan.order.names if is_small(plan) else ():
                beat = earliest(plan, name).beat
                if 0 < beat <= 60:
                    program = teller(plan)
                    broken = Judge(self, plan, name, program).check().broken
                    self.assertEqual(broken.word, "late")
                    told = run(plan.net, plan.order, broken.world, program, broken.script, beat)
                    judged = judge_run(plan, broken.world, broken.script, told)
                    self.assertIsInstance(judged, Right)
                    self.assertEqual(judged.beats[plan.order.place(name)], beat)

    def test_a_teller_that_counts_on_less_is_led_to_a_false_action(self):
        for pairs, at in (((1, 1), 0), ((2, 0), 0), ((3, 2), 0)):
            plan = PLAN.with_budgets(Budgets([pairs]))
            broken = Judge(self, plan, "c", fewer(plan, at)).check().broken
            self.assertEqual((broken.word, broken.name), ("false", "c"))
            broken = Judge(self, plan, "c", believer(plan)).check().broken
            self.assertEqual((broken.word, broken.name), ("false", "c"))
            told = run(plan.net, ORDER, broken.world, believer(plan), broken.script, broken.beat)
            self.assertEqual(judge_run(plan, broken.world, broken.script, told), Wrong("c", broken.beat))

    def test_every_kind_on_one_plan(self):
        order = Order([Event("a", 1, "query"), Event("q", 1, "query", ("a",)), Event("b", 3, "action", ("q",)),
                       Event("c", 2, "query", ("b", "a")), Event("d", 2, "query", ("c",)), Event("e", 1, "action", ("d",)),
                       Event("f", 1, "action", ("e", "a")), Event("g", 1, "query", ("f",))])
        for lots, pairs in (((0,), [(1, 1)]), ((0, 1), [(1, 0), (0, 2)]), ((0, 0, 1, 1), [(1, 1), (1, 0)])):
            for period, delay in ((1, 0), (2, 1)):
                plan = Plan(order, line(3, period, delay, lots), Budgets(pairs))
                for name in ("b", "c", "d", "e", "f", "g"):
                    for kind in KINDS:
                        Judge(self, plan, name, kind(plan)).check()

    def test_loose_forebears_through_queries_of_other_ends(self):
        # z leads to the key of the action through two queries, one of them at another end.
        order = Order([Event("z", 1, "query"), Event("q", 3, "query", ("z",)), Event("r", 1, "query", ("q", "z")),
                       Event("x", 2, "action", ("r",)), Event("y", 3, "action", ("z", "x"))])
        for pairs in ([(1, 1)], [(2, 0)], [(0, 3)], [(0, 0)]):
            plan = Plan(order, line(3), Budgets(pairs))
            for name in "qrxy":
                for kind in KINDS:
                    Judge(self, plan, name, kind(plan)).check()

    def test_a_false_ask_within_the_last_end(self):
        # The guess is true in both worlds of the only pair; what is told at the last end makes it false.
        order = Order([Event("a", 1, "query"), Event("b", 2, "action", ("a",)), Event("c", 2, "query", ("b",)),
                       Event("d", 2, "action", ("c",))])
        plan = PLAN.with_order(order)
        program = lister(lambda end, beat: [("d", (0,))] * (end == 2 and beat == 2))
        game = Judge(self, plan, "d", program).check()
        pair = game.pairs[0]
        for world, script in ((pair.world, pair.script), (pair.other, pair.twin)):
            told = run(plan.net, order, world, program, script, 3)
            self.assertEqual([ask[:4] for ask in told.asks], [(2, 2, "d", (0,))])
            self.assertIsNone(false_ask(order, world, told.asks))
        self.assertEqual((game.broken.word, game.broken.name, game.broken.beat), ("false", "d", 2))

    def test_a_guess_that_would_be_right(self):
        # Worlds tell numbers above all that was asked, so neither counting up nor following what was met helps.
        for pairs in ([(0, 0)], [(0, 3)], [(2, 1)]):
            plan = Plan(chain(1, 2, 1, 2), two_ends(2), Budgets(pairs))
            for kind in (guesser, follower):
                for name in "bcd":
                    self.assertEqual(Judge(self, plan, name, kind(plan)).check().broken.word, "late")

    def test_programs_that_answer_to_great_numbers(self):
        for pairs in ([(1, 0)], [(1, 2)]):
            plan = PLAN.with_budgets(Budgets(pairs))
            program = lister(lambda end, beat: [("b", (10 ** 20 * (beat + 1),))] * (end == 2))
            self.assertEqual(Judge(self, plan, "c", program).check().broken.word, "late")

    def test_the_greatest_time(self):
        plan = Plan(chain(1, 2, kind="action"), two_ends(6, (0, 0), (1, 0)), Budgets([(6, 1)]))
        self.assertEqual(earliest(plan, "b").beat, 79)
        for kind in (teller, believer, silent):
            Judge(self, plan, "b", kind(plan)).check()

    def test_the_result_is_the_same_each_time(self):
        for kind in KINDS:
            self.assertEqual(Foe(PLAN, "c").game(kind(PLAN)), Foe(PLAN, "c").game(kind(PLAN)))


class Raised(Case):
    def test_what_a_run_raises(self):
        for program, error in ((lister(lambda end, beat: ["wrong"] * (end == 2 and beat == 1)), BadProgram(2, 1)),
                               (lambda memory, word: (None, None), BadProgram(1, 1)),
                               (lister(lambda end, beat: [("a", ())] * (2001 * (end == 1))), BadProgram(1, 0))):
            self.assert_raises(error, Foe(PLAN, "c").game, program)
            self.assert_raises(error, Foe(PLAN, "c").against, program)
            self.assert_raises(error, broken_fault, PLAN, "c", program, Broken("late", World(), (), "c", 4))

    def test_behind_the_last_beat_nothing_is_raised(self):
        program = lister(lambda end, beat: ["wrong"] * (beat == 5))
        self.assertEqual(Foe(PLAN, "c").against(program).word, "late")

    def test_what_a_program_raises_goes_on(self):
        def program(memory, word):
            raise KeyError("own")
        with self.assertRaises(KeyError):
            Foe(PLAN, "b").game(program)


class BrokenFault(Case):
    def setUp(self):
        self.late = Foe(PLAN, "c").against(teller(PLAN))
        self.hasty = believer(PLAN)
        self.false = Foe(PLAN, "c").against(self.hasty)

    def fault(self, broken, program=None, **changes):
        parts = {**vars(broken), **changes}
        return broken_fault(PLAN, "c", teller(PLAN) if program is None else program, Broken(**parts))

    def test_right(self):
        self.assertIsNone(self.fault(self.late))
        self.assertIsNone(self.fault(self.false, self.hasty))
        self.assertIsNone(self.fault(self.late, silent(PLAN)))
        self.assertIsNone(self.fault(self.late, silent(PLAN), world=World(), script=()))

    def test_word(self):
        for word in ("", "Late", "right", None, 0, "lost"):
            self.assertEqual(self.fault(self.late, word=word), "word")
            self.assertEqual(self.fault(self.late, word=word, script=None, name="x"), "word")

    def test_script(self):
        for script in (None, (None,), (("lost", 0, 0),), (("lost", 2, 1),), (("lost", 0, 1), ("lost", 0, 1)),
                       (("lost", 0, 1), ("lost", 0, 2)), (("corrupted", 0, 1, 5), ("corrupted", 1, 2, 5)),
                       (("corrupted", 0, 1, None),), self.late.script[::-1]):
            self.assertEqual(self.fault(self.late, script=script), "script", script)
            self.assertEqual(self.fault(self.false, self.hasty, script=script, name="x", beat=99), "script")

    def test_late(self):
        for changes in ({"name": "b"}, {"name": "x"}, {"beat": 3}, {"beat": 5}, {"beat": 0}, {"script": ()}):
            self.assertEqual(self.fault(self.late, **changes), "late", changes)
        # A false ask in the run.
        self.assertEqual(self.fault(self.false, self.hasty, word="late", beat=4), "late")
        other = Broken("late", self.late.world, self.late.script, "b", 2)
        self.assertEqual(broken_fault(PLAN, "b", teller(PLAN), other), "late")
        self.assertIsNone(broken_fault(PLAN, "b", silent(PLAN), other))

    def test_false(self):
        self.assertEqual(self.fault(self.false, self.hasty, beat=self.false.beat + 1), "false")
        self.assertEqual(self.fault(self.false, self.hasty, beat=self.false.beat - 1), "false")
        self.assertEqual(self.fault(self.false, self.hasty, name="b"), "false")
        self.assertEqual(self.fault(self.false, teller(PLAN)), "false")
        self.assertEqual(self.fault(self.late, word="false"), "false")

    def test_only_the_first_false_ask(self):
        program = lister(lambda end, beat: [("c", (beat,))] * (end == 1 and beat in (1, 3)))
        self.assertIsNone(broken_fault(PLAN, "c", program, Broken("false", World(), (), "c", 1)))
        self.assertEqual(broken_fault(PLAN, "c", program, Broken("false", World(), (), "c", 3)), "false")
        self.assertEqual(broken_fault(PLAN, "c", program, Broken("false", World(), (), "c", 4)), "false")

    def test_only_up_to_the_beat_ahead(self):
        program = lister(lambda end, beat: [("c", (9,))] * (end == 1 and beat == 5))
        self.assertEqual(broken_fault(PLAN, "c", program, Broken("false", World(), (), "c", 5)), "false")
        self.assertIsNone(broken_fault(PLAN, "c", program, Broken("late", World(), (), "c", 4)))


if __name__ == "__main__":
    unittest.main()
