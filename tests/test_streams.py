"""[14.1], [14.2], and enough and confusion of [14.6]"""

import random

from askedtrue.errors import BadStream
from askedtrue.streams import Coder, Confused, confusion, encode, enough, least_unlike, unlike
from tests.helpers import Case


def ways_to_choose(n, k):
    """By Pascal's triangle."""
    row = [1]
    for _ in range(n):
        row = [1, *[one + other for one, other in zip(row, row[1:])], 1]
    return row[k] if k < len(row) else 0


def packets_by_sums(width, values):
    packets = []
    for t in range(len(values)):
        packet = [values[t]]
        for j in range(1, width):
            packet.append(sum(ways_to_choose((width - 1) * t + j - 1, (width - 1) * s) * values[s] for s in range(t + 1)))
        packets.append(tuple(packet))
    return tuple(packets)


def differ(one, other):
    return sum(left != right for left, right in zip(one, other))


class Packets(Case):
    def test_by_the_sums(self):
        chance = random.Random(161)
        for width in range(1, 5):
            for count in (0, 1, 2, 5, 12, 30):
                values = [chance.choice((0, 1, -1, chance.randint(-9, 9), 10 ** 30)) for _ in range(count)]
                right = packets_by_sums(width, values)
                self.assert_same(encode(width, values), right)
                self.assert_same(encode(width, tuple(values)), right)
                self.assert_same(Coder(width, values).packets(), right)

    def test_worked_by_hand(self):
        self.assert_same(encode(1, (4, -5)), ((4,), (-5,)))
        # Width 2: 1; 1, 1; 1, 2, 1.
        self.assert_same(encode(2, (4, -5, 1)), ((4, 4), (-5, -1), (1, 4 - 10 + 1)))
        self.assert_same(encode(3, (1, 1)), ((1, 1, 1), (1, 2, 4)))

    def test_own_and_earlier_values_alone(self):
        for width in range(1, 5):
            self.assert_same(encode(width, (3, 1, 4, 1, 5))[:3], encode(width, (3, 1, 4)))

    def test_width_1_and_4(self):
        self.assertEqual({len(packet) for packet in encode(1, range_of(30))}, {1})
        self.assertEqual({len(packet) for packet in encode(4, range_of(30))}, {4})
        self.assert_same(encode(4, ()), ())

    def test_wrong(self):
        for width in (0, 5, True, None, "1", -1):
            self.assert_raises(BadStream("width"), encode, width, None)
            self.assert_raises(BadStream("width"), Coder, width, None)
        for values in (None, 5, "12", [1, True], (False,), (1, None), ("1",), [0] * 31, (1, (2,)), {1: 2}):
            self.assert_raises(BadStream("values"), encode, 2, values)
            self.assert_raises(BadStream("values"), Coder, 2, values)


def range_of(count):
    return list(range(count))


class Coders(Case):
    def test_put(self):
        coder = Coder(3)
        self.assert_same((coder.width, coder.stream), (3, ()))
        more = coder.put(5).put(-1)
        self.assert_same(more.stream, (5, -1))
        self.assert_same(coder.stream, ())
        self.assert_same(more.packets(), packets_by_sums(3, (5, -1)))

    def test_put_none_or_too_many(self):
        for value in (True, None, "5", (5,)):
            self.assert_raises(BadStream("values"), Coder(2).put, value)
        full = Coder(2, [1] * 29).put(1)
        self.assert_raises(BadStream("values"), full.put, 1)

    def test_later_changes_have_no_effect(self):
        stream = [1, 2]
        coder = Coder(2, stream)
        stream.append(3)
        self.assert_same(coder.stream, (1, 2))

    def test_equal(self):
        self.assert_equals(lambda: Coder(2, (1, 2)), [Coder(3, (1, 2)), Coder(2, (1,)), Coder(2, (2, 1))])
        self.assertEqual(Coder(2, [1, 2]), Coder(2).put(1).put(2))


class Unlike(Case):
    def test_least(self):
        for width in range(1, 5):
            for count in range(1, 31):
                self.assert_same(least_unlike(width, count), count - (count - 1) // width)

    def test_streams_that_part_differ_in_so_many(self):
        chance = random.Random(162)
        for _ in range(300):
            width, count = chance.randint(1, 4), chance.randint(1, 9)
            one = [chance.randint(-2, 2) for _ in range(count)]
            other = [value + chance.choice((0, 0, 1, -1)) for value in one]
            part = chance.randint(0, count - 1)
            other[:part] = one[:part]
            other[part] = one[part] + 1
            packets = encode(width, one), encode(width, other)
            self.assertEqual(packets[0][:part], packets[1][:part])
            for end in range(part + 1, count + 1):
                self.assertGreaterEqual(differ(packets[0][part:end], packets[1][part:end]), least_unlike(width, end - part))

    def test_unlike(self):
        for width in range(1, 5):
            for count in range(1, 13):
                told = unlike(width, count)
                self.assertIs(type(told), tuple)
                one, other = told
                self.assertEqual([type(one), type(other), len(one), len(other)], [tuple, tuple, count, count])
                self.assertNotEqual(one[0], other[0])
                self.assertEqual(differ(encode(width, one), encode(width, other)), least_unlike(width, count))
                self.assertEqual({type(value) for value in one + other}, {int})

    def test_wrong(self):
        for width in (0, 5, True, None):
            self.assert_raises(BadStream("width"), least_unlike, width, None)
            self.assert_raises(BadStream("width"), unlike, width, None)
        for count in (0, 31, True, None, "1"):
            self.assert_raises(BadStream("count"), least_unlike, 2, count)
            self.assert_raises(BadStream("count"), unlike, 2, count)
        self.assert_raises(BadStream("count"), unlike, 2, 13)


class Enough(Case):
    def test_least_number(self):
        for width in range(1, 5):
            for corrupted in (0, 1, 2, 7, 30):
                for lost in (0, 1, 5, 30):
                    told = enough(width, corrupted, lost)
                    bad = 2 * corrupted + lost
                    right = [count for count in range(1, 400) if count - (count - 1) // width > bad]
                    self.assert_same(told, right[0] if right else None)
        self.assert_same(enough(1, 0, 0), 1)
        self.assertIsNone(enough(1, 0, 1))
        self.assertIsNone(enough(1, 1, 0))
        self.assert_same(enough(2, 30, 30), 180)

    def test_wrong(self):
        for width in (0, 5, True, None):
            self.assert_raises(BadStream("width"), enough, width, None, None)
            self.assert_raises(BadStream("width"), confusion, width, None, None, None)
        for count in (0, 13, True, None):
            self.assert_raises(BadStream("count"), confusion, 2, count, None, None)
        for number in (-1, 31, True, False, None, "1"):
            self.assert_raises(BadStream("corrupted"), enough, 2, number, None)
            self.assert_raises(BadStream("corrupted"), confusion, 2, 12, number, None)
            self.assert_raises(BadStream("lost"), enough, 2, 1, number)
            self.assert_raises(BadStream("lost"), confusion, 2, 12, 1, number)
        self.assert_raises(BadStream("enough"), confusion, 2, 12, 1, 1)

    def test_confusion(self):
        seen = set()
        for width in range(1, 5):
            for count in range(1, 13):
                for corrupted in (0, 1, 2, 3, 30):
                    for lost in (0, 1, 2, 4, 30):
                        if least_unlike(width, count) > 2 * corrupted + lost:
                            self.assert_raises(BadStream("enough"), confusion, width, count, corrupted, lost)
                        else:
                            self.check_confusion(confusion(width, count, corrupted, lost), width, count, corrupted, lost)
                        right = enough(width, corrupted, lost)
                        seen.add(right is None or count < right)
        self.assertEqual(seen, {True, False})

    def check_confusion(self, told, width, count, corrupted, lost):
        self.assertIs(type(told), Confused)
        self.assertEqual([len(told.first), len(told.second), len(told.heard)], [count] * 3)
        self.assertEqual([type(told.first), type(told.second), type(told.heard)], [tuple] * 3)
        self.assertNotEqual(told.first[0], told.second[0])
        self.assertLessEqual(told.heard.count(None), lost)
        for stream in (told.first, told.second):
            packets = packets_by_sums(width, stream)
            bad = [one for one, other in zip(told.heard, packets) if one is not None and one != other]
            self.assertLessEqual(len(bad), corrupted)

    def test_result(self):
        self.assert_equals(lambda: Confused((1,), (2,), (None,)), [
            Confused((3,), (2,), (None,)), Confused((1,), (3,), (None,)), Confused((1,), (2,), ())])
