"""[16.5], [16.7], [16.8]"""

import random

from askedtrue.desk import Desk, retell_story
from askedtrue.errors import AskedError, BadOrder, BadPlan, BadText
from askedtrue.lots import Budgets
from askedtrue.nets import Net
from askedtrue.nettext import net_text
from askedtrue.orders import Event, Order
from askedtrue.plans import Plan
from askedtrue.plantext import plan_text
from askedtrue.stories import Story
from askedtrue.storytext import parse_story, story_text
from tests.chances import is_small
from tests.deeds import chance_deed
from tests.helpers import Case, chance_plans, two_ends

ORDER = Order([Event("a", 1, "query"), Event("b", 2, "action", ("a",))])
PLAN = Plan(ORDER, two_ends(), Budgets([(1, 1)]))
PLAN_ROWS = "desk 6\nnet 2 1\nway 1 2 0 0 0\nway 2 1 0 0 0\nlot 0 1 1\nquery a 1\naction b 2 a"
DEEDS = (
    (("order", "query a 1\nquery b 1"), "order 2\nquery a 1\nquery b 1"),
    (("order", ""), "order 1\n"),
    (("order", "no\n\norder\r \n"), "order 4\nno\n\norder\r \n"),
    (("net", "net 1 1"), "net 1\nnet 1 1"),
    (("net", "back"), "net 1\nback"),
    (("lots", ((1, 0), (0, 2))), "lots ((1 0) (0 2))"),
    (("lots", ()), "lots ()"),
    (("trust", ((0, 0),)), "trust ((0 0))"),
    (("world", 3, -1), "world 3 -1"),
    (("answer", "a", (1, -2), 5), "answer a (1 -2) 5"),
    (("bad", ("lost", 0, 7)), "bad lost 0 7"),
    (("bad", ("corrupted", 1, 2, ((1, (("a", (), -5),)), None, "x"))), "bad corrupted 1 2 ((1 ((a () -5))) - x)"),
    (("bad", ("corrupted", 0, 1, 0)), "bad corrupted 0 1 0"),
    (("deadline", "a", 400), "deadline a 400"),
    (("checks", ()), "checks ()"),
    (("checks", (1, 2)), "checks (1 2)"),
    (("foe", "a"), "foe a"),
    (("go on", 3), "go 3"),
    (("again",), "again"),
)


def deep(many):
    """A thing that is nested so deep."""
    thing = 7
    for _ in range(many):
        thing = (thing,)
    return thing


class Texts(Case):
    def test_no_deeds(self):
        self.assert_same(story_text(Story(PLAN, ())), PLAN_ROWS)
        self.assertEqual(parse_story(PLAN_ROWS), Story(PLAN, ()))
        bare = Plan(Order(()), Net(1, 1, ()), Budgets(()))
        self.assert_same(story_text(Story(bare, ())), "desk 1\nnet 1 1")
        self.assertEqual(parse_story("desk 1\nnet 1 1"), Story(bare, ()))

    def test_each_word(self):
        for deed, rows in DEEDS:
            text = PLAN_ROWS + "\n" + rows
            self.assert_same(story_text(Story(PLAN, (deed,))), text)
            told = parse_story(text)
            self.assertEqual(told, Story(PLAN, (deed,)))
            self.assert_same(told.deeds, (deed,))

    def test_all_in_one(self):
        deeds = tuple(deed for deed, _ in DEEDS)
        text = "\n".join([PLAN_ROWS, *[rows for _, rows in DEEDS]])
        self.assert_same(story_text(Story(PLAN, deeds)), text)
        self.assert_same(parse_story(text).deeds, deeds)
        self.assert_same(story_text(Story(PLAN, [list(deed) for deed in deeds])), text)

    def test_whether_deeds_can_be_made_is_not_asked(self):
        for deed, rows in ((("foe", None), "foe -"), (("go on", "on"), "go on"), (("go on", (3,)), "go (3)"),
                           (("answer", 1, 2, ()), "answer 1 2 ()"), (("world", None, "x"), "world - x"),
                           (("bad", ("lost", 99, 0)), "bad lost 99 0"), (("checks", -5), "checks -5"),
                           (("trust", deep(11)), "trust " + "(" * 11 + "7" + ")" * 11)):
            self.assert_same(story_text(Story(PLAN, (deed,))), PLAN_ROWS + "\n" + rows)
            self.assert_same(parse_story(PLAN_ROWS + "\n" + rows).deeds, (deed,))

    def test_round_there_and_back(self):
        chance = random.Random(221)
        words = set()
        for plan in chance_plans(221, 80, 4):
            if not is_small(plan):
                continue
            desk = Desk(plan)
            for _ in range(25):
                try:
                    desk.take_deed(chance_deed(chance, desk))
                except AskedError:
                    pass
            story = desk.tell_story()
            try:
                text = story_text(story)
            except BadText as error:
                # Packets may be what has no text.
                self.assertEqual(story.deeds[error.row][0], "bad")
                continue
            words |= {deed[0] for deed in story.deeds}
            told = parse_story(text)
            self.assertEqual(told, story)
            self.assert_same(told.deeds, story.deeds)
            self.assert_same(story_text(told), text)
            self.assertEqual(retell_story(told), desk)
        self.assertEqual(len(words), 12)

    def test_result(self):
        self.assert_equals(lambda: Story(PLAN, (("again",),)), [
            Story(PLAN, ()), Story(PLAN.with_budgets(Budgets([(0, 0)])), (("again",),))])


class NoText(Case):
    def check(self, deed):
        self.assert_raises(BadText(0), story_text, Story(PLAN, (deed,)))
        self.assert_raises(BadText(2), story_text, Story(PLAN, (("again",), ("order", "x\ny"), deed, None)))

    def test_none(self):
        for deed in (None, 5, "again", (), ("odd",), ("back",), ("again", 1), ("go on",), ("go", 3), ("world", 1), ("desk", 1),
                     ("order",), ("net", "a", "b")):
            self.check(deed)

    def test_no_string(self):
        for text in (None, 5, ("query a 1",), ["query a 1"]):
            self.check(("order", text))
            self.check(("net", text))

    def test_no_bad_packet(self):
        for packet in (None, 5, ["lost", 0, 1], ("lost", 0), ("lost", True, 1), ("lost", 0, -1), ("corrupted", 0, 1),
                       ("corrupted", 0, 1, None), ("late", 0, 1)):
            self.check(("bad", packet))

    def test_things_without_a_text(self):
        for thing in (True, False, 1.5, "", "A", "too long x", "nine9nine", {}, (1, True), [1], deep(12), 10 ** 300, -10 ** 300):
            self.check(("checks", thing))
            self.check(("answer", "a", thing, 5))
            self.check(("bad", ("corrupted", 0, 1, (thing,))))
        self.check(("bad", ("corrupted", 0, 1, deep(13))))
        self.check(("bad", ("lost", 10 ** 300, 1)))
        self.check(("bad", ("lost", 0, 10 ** 5000)))
        story_text(Story(PLAN, (("bad", ("corrupted", 0, 1, deep(12))), ("checks", 10 ** 300 - 1), ("trust", deep(11)))))


class WrongRows(Case):
    def wrong(self, row, text):
        self.assert_raises(BadText(row), parse_story, text)

    def test_first_row(self):
        rest = PLAN_ROWS[6:]
        for text in (None, 5, ["desk 1"], b"desk 1", "", "\n", "desk", "desk ", "desk 0", "desk 1", "net 1 1", "desk 6", " " + PLAN_ROWS,
                     "Desk 6" + rest, "desk  6" + rest, "desk 06" + rest, "desk +6" + rest, "desk -6" + rest, "desk 6 " + rest,
                     "desk 7" + rest, "desk " + "9" * 400 + rest, "desk six" + rest, "desk 0" + rest, "desk 6\r" + rest):
            self.wrong(0, text)

    def test_rows_of_the_plan(self):
        self.wrong(1, PLAN_ROWS.replace("net 2 1", "net 2"))
        self.wrong(3, PLAN_ROWS.replace("way 2 1", "way 1 1"))
        self.wrong(4, PLAN_ROWS.replace("lot 0 1 1", "lot 1 1 1"))
        self.wrong(6, PLAN_ROWS.replace("action b 2 a", ""))
        self.wrong(6, PLAN_ROWS.replace("action b 2 a", "again"))
        # The row that would be wrong as one of a deed counts less than one of the plan ahead of it.
        self.wrong(3, PLAN_ROWS.replace("way 2 1", "way 1 1") + "\nback")

    def test_rows_left_over(self):
        self.wrong(6, PLAN_ROWS.replace("desk 6", "desk 5"))
        self.wrong(7, PLAN_ROWS.replace("desk 6", "desk 7") + "\nagain")

    def test_what_else_the_plan_raises(self):
        self.assert_raises(BadOrder("twice", "a"), parse_story, PLAN_ROWS.replace("action b", "action a"))
        self.assert_raises(BadPlan("tree"), parse_story, "desk 1\nnet 2 1")
        self.assert_raises(BadPlan("end"), parse_story, "desk 2\nnet 1 1\nquery a 2")

    def test_a_line_feed_at_the_end(self):
        self.wrong(7, PLAN_ROWS + "\n")
        self.wrong(8, PLAN_ROWS + "\nagain\n")
        self.wrong(10, PLAN_ROWS + "\nagain\norder 1\n\n")
        self.assert_same(parse_story(PLAN_ROWS + "\norder 1\n").deeds, (("order", ""),))

    def test_texts_of_orders_and_nets(self):
        for row in ("order", "order ", "order 0", "order 2", "order 01", "order x", "order 1 1", "net 9", "net -1", "Order 1",
                    "order " + "9" * 400, "order  1"):
            self.wrong(7, PLAN_ROWS + "\n" + row + "\nagain")
            self.wrong(8, PLAN_ROWS + "\nagain\n" + row + "\nagain")
        self.wrong(7, PLAN_ROWS + "\norder 1")
        # Rows within are not looked at, and are no rows of deeds.
        self.assert_same(parse_story(PLAN_ROWS + "\nnet 3\nback\n\nnet 5\nagain").deeds, (("net", "back\n\nnet 5"), ("again",)))

    def test_rows_of_deeds(self):
        for row in ("", " ", "back", "back ", "odd 1", "again ", "again 1", "again ()", " again", "Again", "again\r",
                    "go", "go ", "go 1 2", "go  1", "go 01", "go +1", "go on 1", "go 1 ", "go 1\r", "go-1", "go\t1",
                    "world 1", "world 1 2 3", "world 1  2", "world (1 2)", "lots", "lots (1 0) (0 2)", "lots ((1 0)",
                    "lots ((1  0))", "lots )(", "lots ) (", "foe", "foe A", "foe a b", "foe -0", "foe 5) (6", "foe " + "9" * 301,
                    "answer a (1 -2)", "answer a 1 2 3", "checks (1 2) ", "checks", "checks -1-", "deadline a", "deadline a b c",
                    "bad", "bad ", "bad lost", "bad lost 0", "bad lost 0 01", "bad lost 0 1 2", "bad  lost 0 1",
                    "bad corrupted 0 1", "bad corrupted 0 1 -", "bad corrupted 0 1 True", "bad (lost 0 1)", "lost 0 1",
                    "trust " + "(" * 12 + "7" + ")" * 12):
            self.wrong(7, PLAN_ROWS + "\n" + row)
            self.wrong(9, PLAN_ROWS + "\nagain\ngo 3\n" + row + "\nback")

    def test_spoilt_in_one_place(self):
        chance = random.Random(222)
        text = "\n".join([PLAN_ROWS, *[rows for _, rows in DEEDS if not rows.startswith(("order", "net"))]])
        for _ in range(600):
            at = chance.randrange(len(text))
            spoilt = text[:at] + chance.choice(("", " ", "0", "x", "\n", "-", "(", ")", "Z")) + text[at + chance.randint(0, 1):]
            try:
                told = parse_story(spoilt)
            except BadText as error:
                self.assertLessEqual(error.row, spoilt[:at + 1].count("\n") + 1)
                self.assertNotEqual(spoilt, text)
                continue
            except AskedError:
                continue
            self.assert_same(story_text(told), spoilt)

    def test_first_wrong_row_of_two(self):
        self.wrong(8, PLAN_ROWS + "\nagain\nodd\nagain\nodd")
        self.wrong(8, PLAN_ROWS + "\nagain\norder 9\nodd")
        self.wrong(9, PLAN_ROWS + "\norder 1\nodd\nodd")


class LongTexts(Case):
    def test_a_net_of_many_rows(self):
        text = net_text(two_ends(3, (1, 2), (0, 2)))
        story = Story(PLAN, (("net", text), ("order", plan_text(PLAN))))
        self.assertEqual(parse_story(story_text(story)), story)
