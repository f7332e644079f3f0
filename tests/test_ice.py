"""Points 3, 6, 8, 9, 10 and 40 to 45: the ice of a channel."""

import itertools
import random
import unittest

from helping import Case, channel, odd_things, outcome
from iceopened.errors import NoChannel, NoEntry, NoHour, NoNumber, TooMany
from iceopened.ice import Ice

BAD_NUMBERS = ["", "1", "a", -(10 ** 39), 10 ** 39, ["1"], (5, 1)]
FAR = 10 ** 9


def ice_of(breakings, begin=0, **numbers):
    made = Ice(channel(**numbers), begin)
    for hour, cut in breakings:
        made.break_at(hour, cut)
    return made


def hour_by_hour(numbers, begin, breakings, end):
    """The ice ahead of the breakings and behind them, of each hour from the begin to the end, worked out singly."""
    ahead, behind = {}, {}
    for hour in range(begin, end + 1):
        if hour == begin:
            ahead[hour] = numbers["first"]
        else:
            ahead[hour] = min(numbers["most"], behind[hour - 1] + numbers["growth"])
        behind[hour] = ahead[hour]
        for at, cut in breakings:
            if at == hour:
                behind[hour] = max(0, behind[hour] - cut)
    return ahead, behind


def runs(hours):
    """The rising hours as tuples of the first and the last of each stretch."""
    found = []
    for hour in hours:
        if found and found[-1][1] == hour - 1:
            found[-1] = (found[-1][0], hour)
        else:
            found.append((hour, hour))
    return found


def some_ices(many):
    """Numbers of a channel, a begin and breakings, the same ones each time."""
    chance = random.Random(40)
    for _ in range(many):
        first = chance.choice([0, 0, 1, 5, 12])
        growth, most = chance.choice([0, 1, 1, 2, 5, 100]), first + chance.choice([0, 1, 7, 20])
        numbers = dict(first=first, growth=growth, most=most)
        begin = chance.choice([0, 0, 3, 11])
        breakings = [(begin + chance.randrange(12), chance.choice([1, 2, 3, 6, 50]))
                     for _ in range(chance.choice([0, 1, 2, 3, 5, 9]))]
        yield numbers, begin, breakings


class Made(Case):
    def test_at_first_there_are_no_breakings(self):
        made = Ice(channel(), 0)
        self.assertEqual((made.breakings(), made.rows()), ([], []))

    def test_what_is_no_channel(self):
        for thing in odd_things() + ["c", 0, channel().row()]:
            if type(thing) is not type(channel()):
                self.refused_of(NoChannel, thing, Ice, thing, 0)

    def test_begin_at_its_bounds_and_beyond(self):
        for begin in (0, 1, 10 ** 6 - 1, 10 ** 6):
            self.assertEqual(Ice(channel(first=7), begin).thick(begin), 7)
        for begin in odd_things() + BAD_NUMBERS + [-1, 10 ** 6 + 1]:
            self.refused_of(NoNumber, begin, Ice, channel(), begin)

    def test_the_channel_goes_ahead_of_the_begin(self):
        thing = ["c"]
        self.refused_of(NoChannel, thing, Ice, thing, -1)
        self.refused_of(NoChannel, None, Ice, None, None)


class Bounds(Case):
    """All with an Ice that begins at 5, at which there is no breaking."""

    def setUp(self):
        self.ice = ice_of([(9, 3)], begin=5)

    def test_asked_hours_at_their_bounds(self):
        for hour, thick in ((5, 0), (6, 2), (FAR - 1, 50), (FAR, 50)):
            self.whole(self.ice.thick(hour), thick)
            self.whole(self.ice.ahead(hour), thick)
            self.whole(self.ice.next_hour(hour, 50), hour)
            self.whole(self.ice.last_hour(hour, 50), hour)

    def test_asked_hours_beyond(self):
        for hour in odd_things() + BAD_NUMBERS + [4, 0, -1, FAR + 1]:
            for ask in (self.ice.thick, self.ice.ahead):
                self.refused_of(NoHour, hour, ask, hour)
            for ask in (self.ice.next_hour, self.ice.last_hour):
                self.refused_of(NoHour, hour, ask, hour, 50)

    def test_strengths_at_their_bounds(self):
        for strength in (0, 1, FAR - 1, FAR):
            self.assertEqual(self.ice.next_hour(5, strength), 5)
            self.assertEqual(self.ice.last_hour(5, strength), 5)
            self.assertEqual(self.ice.stretches(strength)[0][0], 5)

    def test_strengths_beyond(self):
        for strength in odd_things() + BAD_NUMBERS + [-1, FAR + 1]:
            self.refused_of(NoNumber, strength, self.ice.next_hour, 5, strength)
            self.refused_of(NoNumber, strength, self.ice.last_hour, 5, strength)
            self.refused_of(NoNumber, strength, self.ice.stretches, strength)

    def test_hours_of_breakings_at_their_bounds(self):
        for hour in (5, 6, 10 ** 8 - 1, 10 ** 8):
            self.assertIsNone(self.ice.break_at(hour, 2))
            self.assertIn((hour, 2), self.ice.breakings())
            self.assertIsNone(self.ice.mend_at(hour, 2))
        self.assertEqual(self.ice.breakings(), [(9, 3)])

    def test_hours_of_breakings_beyond(self):
        for hour in odd_things() + BAD_NUMBERS + [4, 0, -1, 10 ** 8 + 1, FAR]:
            self.refused_of(NoHour, hour, self.ice.break_at, hour, 2)
            self.refused_of(NoHour, hour, self.ice.mend_at, hour, 2)
        self.assertEqual(self.ice.breakings(), [(9, 3)])

    def test_cuts_at_their_bounds(self):
        for cut in (1, 2, 10 ** 6 - 1, 10 ** 6):
            self.ice.break_at(7, cut)
            self.assertEqual(self.ice.breakings(), [(7, cut), (9, 3)])
            self.ice.mend_at(7, cut)

    def test_cuts_beyond(self):
        for cut in odd_things() + BAD_NUMBERS + [0, -1, 10 ** 6 + 1]:
            self.refused_of(NoNumber, cut, self.ice.break_at, 7, cut)
            self.refused_of(NoNumber, cut, self.ice.mend_at, 9, cut)
        self.assertEqual(self.ice.breakings(), [(9, 3)])

    def test_the_hour_goes_ahead_of_the_number(self):
        for ask in (self.ice.break_at, self.ice.mend_at, self.ice.next_hour, self.ice.last_hour):
            self.refused_of(NoHour, 4, ask, 4, -1)
            self.refused_of(NoHour, None, ask, None, True)


class Breakings(Case):
    def test_of_one_hour_in_whatever_order(self):
        wanted = [(3, 1), (3, 4), (3, 4), (8, 2)]
        for breakings in itertools.permutations(wanted):
            made = ice_of(breakings, first=20, growth=1)
            self.assertEqual(made.breakings(), wanted)
            self.assertEqual(made.rows(), [(3, 23, 14), (8, 19, 17)])
            self.assertEqual([type(row) for row in made.breakings() + made.rows()], [tuple] * 6)

    def test_never_less_than_nought_of_one_hour_together(self):
        made = ice_of([(3, 20), (3, 20)], first=20, growth=1)
        self.assertEqual(made.rows(), [(3, 23, 0)])
        self.assertEqual((made.ahead(4), made.thick(4)), (1, 1))

    def test_at_the_begin(self):
        made = ice_of([(5, 3)], begin=5, first=10, growth=2, most=30)
        self.assertEqual((made.ahead(5), made.thick(5), made.thick(6)), (10, 7, 9))
        self.assertEqual(made.rows(), [(5, 10, 7)])

    def test_mending_takes_one_of_several_alike(self):
        made = ice_of([(3, 4), (3, 4), (3, 5)], first=20, growth=0)
        for left, thick in (([(3, 4), (3, 5)], 11), ([(3, 5)], 15)):
            made.mend_at(3, 4)
            self.assertEqual((made.breakings(), made.thick(3)), (left, thick))
        self.assertEqual(self.refused(NoEntry, made.mend_at, 3, 4).found, (3, 4))
        made.mend_at(3, 5)
        self.assertEqual((made.breakings(), made.rows(), made.thick(3)), ([], [], 20))

    def test_mending_what_is_not_there(self):
        made = ice_of([(3, 4)])
        for entry in ((3, 5), (4, 4), (2, 4), (4, 3)):
            error = self.refused(NoEntry, made.mend_at, *entry)
            self.assertEqual(error.found, entry)
            self.assertIs(type(error.found), tuple)
        self.assertEqual(made.breakings(), [(3, 4)])

    def test_two_hundred_breakings_and_one_more(self):
        made = ice_of([(hour, 1) for hour in range(200)], first=20, growth=1, most=30)
        self.assertEqual(len(made.rows()), 200)
        self.assertEqual([made.thick(hour) for hour in (0, 1, 199, 200)], [19, 19, 19, 20])
        told = (made.breakings(), made.rows())
        self.assertEqual(self.refused(TooMany, made.break_at, 3, 1).many, 201)
        self.refused_of(NoHour, -1, made.break_at, -1, 1)
        self.refused_of(NoNumber, 0, made.break_at, 3, 0)
        self.assertEqual((made.breakings(), made.rows()), told)
        made.mend_at(100, 1)
        made.break_at(3, 1)
        self.assertEqual(self.refused(TooMany, made.break_at, 3, 1).many, 201)

    def test_two_hundred_of_one_hour(self):
        made = ice_of([(7, 1)] * 200, first=300, growth=0, most=300)
        self.assertEqual((made.rows(), len(made.breakings())), ([(7, 300, 100)], 200))
        self.assertEqual(self.refused(TooMany, made.break_at, 9, 1).many, 201)

    def test_what_is_broken_and_mended_again_changes_nothing(self):
        made = ice_of([(3, 4), (9, 1)], first=20)
        told = (made.breakings(), made.rows(), made.stretches(21))
        made.break_at(6, 9)
        self.assertNotEqual(made.rows(), told[1])
        made.mend_at(6, 9)
        self.assertEqual((made.breakings(), made.rows(), made.stretches(21)), told)

    def test_told_lists_are_the_askers_own(self):
        made = ice_of([(0, 4), (9, 1)], first=20)
        for ask in (made.breakings, made.rows, lambda: made.stretches(21)):
            self.assertIs(type(ask()), list)
            before = list(ask())
            ask().clear()
            ask().append((1, 1, 1))
            self.assertEqual(ask(), before)
        self.assertEqual(made.thick(9), 33)


class Told(Case):
    def test_growth_of_nought(self):
        made = ice_of([(4, 3)], first=10, growth=0, most=50)
        self.assertEqual([made.thick(hour) for hour in (0, 3, 4, 5, FAR)], [10, 10, 7, 7, 7])
        self.assertEqual([made.ahead(hour) for hour in (0, 3, 4, 5, FAR)], [10, 10, 10, 7, 7])
        self.assertEqual((made.stretches(9), made.stretches(10), made.stretches(6)), ([(4, None)], [(0, None)], []))

    def test_a_most_at_the_first_number(self):
        made = ice_of([(4, 3)], first=10, growth=1, most=10)
        self.assertEqual([made.thick(hour) for hour in (0, 3, 4, 5, 6, 7, 8, FAR)], [10, 10, 7, 8, 9, 10, 10, 10])
        self.assertEqual((made.stretches(9), made.stretches(10)), ([(4, 6)], [(0, None)]))

    def test_far_hours(self):
        made = ice_of([(10 ** 8, 400)], first=0, growth=1, most=1000)
        self.assertEqual([made.thick(hour) for hour in (999, 1000, 1001, 10 ** 8 - 1)], [999, 1000, 1000, 1000])
        self.assertEqual([made.thick(10 ** 8 + more) for more in (0, 1, 400)], [600, 601, 1000])
        self.assertEqual((made.ahead(10 ** 8), made.thick(FAR), made.ahead(FAR)), (1000, 1000, 1000))
        self.assertEqual((made.next_hour(701, 700), made.last_hour(FAR, 700)), (10 ** 8, 10 ** 8 + 100))
        self.assertEqual((made.next_hour(FAR, 999), made.next_hour(FAR, 1000)), (None, FAR))
        self.assertEqual(made.stretches(700), [(0, 700), (10 ** 8, 10 ** 8 + 100)])

    def test_greatest_numbers(self):
        made = ice_of([(10 ** 6, 10 ** 6)], begin=10 ** 6, first=10 ** 6, growth=1000, most=10 ** 6)
        self.assertEqual([made.thick(10 ** 6 + more) for more in (0, 1, 999, 1000, 1001)],
                         [0, 1000, 999000, 10 ** 6, 10 ** 6])
        self.assertEqual(made.stretches(999999), [(10 ** 6, 10 ** 6 + 999)])

    def test_next_and_last_hours(self):
        made = ice_of([(5, 6), (12, 3)], begin=2, first=7, growth=1, most=10)
        # From 2 on: 7 8 9 4 5 6 7 8 9 10 7 8 9 10 10 ..
        self.assertEqual([made.next_hour(hour, 4) for hour in (2, 4, 5, 6, 12)], [5, 5, 5, None, None])
        self.assertEqual([made.next_hour(hour, 7) for hour in (2, 3, 8, 9, 12, 13)], [2, 5, 8, 12, 12, None])
        self.assertEqual([made.last_hour(hour, 4) for hour in (2, 4, 5, 6, 50)], [None, None, 5, 5, 5])
        self.assertEqual([made.last_hour(hour, 7) for hour in (2, 4, 5, 8, 9, 11, 12, 13)], [2, 2, 5, 8, 8, 8, 12, 12])
        self.assertEqual((made.next_hour(2, 3), made.last_hour(50, 3)), (None, None))
        self.assertEqual((made.next_hour(40, 10), made.last_hour(40, 10)), (40, 40))

    def test_stretches_are_as_long_as_can_be(self):
        made = ice_of([(5, 6), (12, 3)], begin=2, first=7, growth=1, most=10)
        self.assertEqual(made.stretches(3), [])
        self.assertEqual(made.stretches(7), [(2, 2), (5, 8), (12, 12)])
        self.assertEqual(made.stretches(8), [(2, 3), (5, 9), (12, 13)])
        self.assertEqual(made.stretches(9), [(2, 10), (12, 14)])
        self.assertEqual(made.stretches(10), [(2, None)])
        self.assertEqual([type(stretch) for stretch in made.stretches(9)], [tuple, tuple])

    def test_against_going_hour_by_hour(self):
        for numbers, begin, breakings in some_ices(300):
            end = begin + 60
            ahead, behind = hour_by_hour(numbers, begin, breakings, end)
            made = ice_of(breakings, begin=begin, **numbers)
            self.assertEqual(made.breakings(), sorted(breakings))
            broken = sorted({hour for hour, _ in breakings})
            self.assertEqual(made.rows(), [(hour, ahead[hour], behind[hour]) for hour in broken])
            for hour in range(begin, end + 1):
                self.assertEqual((made.ahead(hour), made.thick(hour)), (ahead[hour], behind[hour]))
            for strength in range(0, numbers["most"] + 2):
                self.look_at_strength(made, behind, begin, end, strength)

    def look_at_strength(self, made, behind, begin, end, strength):
        hours = [hour for hour in range(begin, end + 1) if behind[hour] <= strength]
        wanted = runs(hours)
        if wanted and wanted[-1][1] == end:
            wanted[-1] = (wanted[-1][0], None)
        self.assertEqual(made.stretches(strength), wanted)
        for hour in range(begin, end + 1):
            later = [other for other in hours if other >= hour]
            self.assertEqual(made.next_hour(hour, strength), later[0] if later else None)
            ahead = [other for other in hours if other <= hour]
            self.assertEqual(made.last_hour(hour, strength), ahead[-1] if ahead else None)

    def test_in_whatever_order_it_is_told_and_asked(self):
        for numbers, begin, breakings in some_ices(60):
            made = ice_of(breakings, begin=begin, **numbers)
            other = ice_of(sorted(breakings)[::-1], begin=begin, **numbers)
            hours = list(range(begin, begin + 30))
            told = {hour: (made.thick(hour), made.ahead(hour)) for hour in hours}
            self.assertEqual({hour: (other.thick(hour), other.ahead(hour)) for hour in hours[::-1]}, told)
            self.assertEqual({hour: (made.thick(hour), made.ahead(hour)) for hour in hours[::-1]}, told)

    def test_breaking_and_mending_in_turns(self):
        chance = random.Random(41)
        for numbers, begin, _ in some_ices(30):
            made, there = Ice(channel(**numbers), begin), []
            for _ in range(25):
                entry = (begin + chance.randrange(6), chance.choice([1, 2]))
                if chance.randrange(2):
                    made.break_at(*entry)
                    there.append(entry)
                elif entry in there:
                    made.mend_at(*entry)
                    there.remove(entry)
                else:
                    self.assertEqual(outcome(made.mend_at, *entry), ("refused", NoEntry, {"found": entry}))
                self.assertEqual(made.rows(), ice_of(there, begin=begin, **numbers).rows())
                self.assertEqual(made.breakings(), sorted(there))


class Copied(Case):
    def test_a_copy_tells_the_same(self):
        made = ice_of([(3, 4), (3, 1), (9, 2)], begin=3, first=20)
        other = made.copied()
        self.assertIs(type(other), Ice)
        self.assertIsNot(other, made)
        self.assertEqual((other.breakings(), other.rows()), (made.breakings(), made.rows()))
        self.assertEqual(other.stretches(30), made.stretches(30))
        self.refused_of(NoHour, 2, other.thick, 2)

    def test_each_goes_its_own_way(self):
        made = ice_of([(3, 4)], first=20)
        other = made.copied()
        made.break_at(5, 1)
        self.assertEqual((made.breakings(), other.breakings()), ([(3, 4), (5, 1)], [(3, 4)]))
        other.mend_at(3, 4)
        self.assertEqual((made.breakings(), other.breakings()), ([(3, 4), (5, 1)], []))
        self.assertEqual((made.thick(5), other.thick(5)), (25, 30))
        again = other.copied()
        again.break_at(0, 1)
        self.assertEqual((other.rows(), again.rows()), ([], [(0, 20, 19)]))

    def test_a_full_copy_is_full(self):
        other = ice_of([(7, 1)] * 200).copied()
        self.assertEqual(self.refused(TooMany, other.break_at, 9, 1).many, 201)


if __name__ == "__main__":
    unittest.main()
