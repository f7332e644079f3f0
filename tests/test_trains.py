"""Points 8, 9 and 16: trains."""

import itertools
import unittest

from helping import Case, breaker, channel, odd_things, ship, vessel
from iceopened.errors import NoKind
from iceopened.vessels import Train, Vessel

SIX = [
    breaker(name="ka", hour=7, strength=40, draught=6, cut=15),
    ship(name="sa", port="b", hour=2, strength=30, draught=9),
    vessel(name="va", hour=9, strength=26, draught=1),
    breaker(name="kb", port="d", hour=0, strength=50, draught=2, cut=5),
    ship(name="sb", hour=3, strength=31, draught=3),
    vessel(name="vb", hour=1, strength=44, draught=4),
]


def goes_through(vessels, thick):
    """Whether ice of this thickness lets each vessel by its turn."""
    for each in vessels:
        if thick > each.strength:
            return False
        thick = max(0, thick - each.thins())
    return True


class Values(Case):
    def test_of_a_breaker_and_a_ship(self):
        train = Train([breaker(hour=3, strength=30, draught=6, cut=20), ship(hour=8, strength=5, draught=7)])
        self.assertEqual((train.name, train.port, train.hour, train.draught), ("k", "aa", 8, 7))
        self.assertEqual(train.strength, 25)
        self.assertEqual((train.kind(), train.thins(), train.names()), ("train", 20, ["k", "s"]))

    def test_of_one_to_six(self):
        for many in range(1, 7):
            for made in (list, tuple):
                vessels = SIX[:many]
                train = Train(made(vessels))
                self.assertIsInstance(train, Vessel)
                self.assertEqual((train.kind(), train.name, train.port), ("train", "ka", "aa"))
                self.whole(train.hour, max(each.hour for each in vessels))
                self.whole(train.draught, max(each.draught for each in vessels))
                self.whole(train.thins(), 20 if many > 3 else 15)
                self.assertEqual(train.names(), ["ka", "sa", "va", "kb", "sb", "vb"][:many])
                self.assertEqual(train.row(), tuple(each.row() for each in vessels))

    def test_name_and_port_are_those_of_the_first_in_each_order(self):
        for vessels in itertools.permutations(SIX, 3):
            train = Train(vessels)
            self.assertEqual((train.name, train.port), (vessels[0].name, vessels[0].port))
            self.assertEqual(train.names(), [each.name for each in vessels])

    def test_a_vessel_may_stand_in_it_twice(self):
        train = Train([SIX[0], SIX[0]])
        self.assertEqual((train.names(), train.thins()), (["ka", "ka"], 30))
        self.assertEqual((train.strength, train.row()), (40, (SIX[0].row(), SIX[0].row())))

    def test_row_is_a_tuple_of_tuples(self):
        row = Train([vessel(), ship()]).row()
        self.assertEqual(row, (("v", "aa", 4, 10, 5), ("s", "aa", "b", 4, 10, 5)))
        self.assertEqual([type(part) for part in (row,) + row], [tuple] * 3)

    def test_all_together_thin_more_than_one_may(self):
        train = Train([breaker(strength=10 ** 6, cut=10 ** 6)] * 6)
        self.whole(train.thins(), 6 * 10 ** 6)
        self.whole(train.strength, 10 ** 6)

    def test_lets_by_the_greatest_draught(self):
        train = Train([breaker(draught=3), ship(draught=8), vessel(draught=5)])
        self.assertEqual([train.lets(channel(depth=depth)) for depth in (7, 8, 9)], [False, True, True])


class Strength(Case):
    def test_one_alone(self):
        for strength in (0, 1, 30, 10 ** 6):
            self.whole(Train([breaker(strength=strength)]).strength, strength)

    def test_the_first_bars(self):
        self.whole(Train([breaker(strength=9, cut=50), ship(strength=9)]).strength, 9)

    def test_one_behind_bars(self):
        self.whole(Train([breaker(strength=30, cut=4), ship(strength=7), vessel(strength=6)]).strength, 10)

    def test_who_thins_nothing_helps_nobody(self):
        self.whole(Train([ship(strength=30), breaker(strength=12), ship(strength=0)]).strength, 12)

    def test_no_vessel_is_helped_by_itself_or_by_one_behind(self):
        self.whole(Train([breaker(strength=5, cut=100), breaker(strength=100, cut=100)]).strength, 5)
        self.whole(Train([ship(strength=5), breaker(strength=100, cut=100)]).strength, 5)

    def test_of_strength_nought(self):
        self.whole(Train([ship(strength=0), ship(strength=4)]).strength, 0)
        self.whole(Train([breaker(strength=0, cut=9), ship(strength=0)]).strength, 0)
        self.whole(Train([breaker(strength=20, cut=9), ship(strength=0)]).strength, 9)

    def test_gone_through_vessel_by_vessel(self):
        some = [breaker(strength=strength, cut=cut) for strength in (0, 3, 6) for cut in (1, 4)]
        some += [ship(strength=strength) for strength in (0, 2, 5)]
        for many in (1, 2, 3):
            for vessels in itertools.product(some, repeat=many):
                self.look_at(vessels)

    def test_gone_through_six(self):
        for vessels in itertools.permutations(SIX):
            self.look_at(vessels)

    def look_at(self, vessels):
        strength = Train(vessels).strength
        self.assertTrue(goes_through(vessels, strength))
        self.assertFalse(goes_through(vessels, strength + 1))
        self.assertLessEqual(strength, vessels[0].strength)


class Copies(Case):
    def test_the_list_handed_in_is_changed_afterwards(self):
        handed = [breaker(), ship()]
        train = Train(handed)
        told = (train.names(), train.row(), train.thins(), train.strength)
        handed[0] = vessel(name="other", strength=0)
        handed.append(vessel())
        self.assertEqual((train.names(), train.row(), train.thins(), train.strength), told)
        handed.clear()
        self.assertEqual((train.names(), train.row(), train.thins(), train.strength), told)

    def test_the_list_handed_in_stays(self):
        first, second = breaker(), ship()
        handed = [first, second]
        Train(handed)
        self.assertEqual(len(handed), 2)
        self.assertIs(handed[0], first)
        self.assertIs(handed[1], second)

    def test_names_are_a_new_list_each_time(self):
        train = Train([breaker(), ship()])
        told = train.names()
        self.assertIs(type(told), list)
        self.assertIsNot(train.names(), told)
        told.append("more")
        told[0] = "other"
        self.assertEqual(train.names(), ["k", "s"])


class Refusals(Case):
    def test_none_or_seven(self):
        for handed in ([], (), [vessel()] * 7, (vessel(),) * 7, [vessel()] * 200):
            self.refused_of(NoKind, handed, Train, handed)

    def test_a_train_among_them(self):
        inner = Train([vessel()])
        for handed in ([inner], (inner,), [vessel(), inner], [inner, vessel()], (breaker(), ship(), inner)):
            self.refused_of(NoKind, handed, Train, handed)

    def test_what_is_no_vessel_among_them(self):
        for thing in [None, True, 0, "v", "", [], (), {}, [vessel()], {"v": 1}, channel(), vessel().row(), 10 ** 39]:
            for handed in ([thing], (thing,), [vessel(), thing], [thing, vessel()], [vessel()] * 5 + [thing]):
                self.refused_of(NoKind, handed, Train, handed)

    def test_what_is_no_list_and_no_tuple(self):
        things = [None, True, 0, 3, 10 ** 39, "", "v", "vessels", {}, {"v": 1}, {1: "a"}]
        for thing in things + [vessel(), breaker(), ship(), channel(), Train([vessel()])]:
            self.refused_of(NoKind, thing, Train, thing)

    def test_a_refusal_holds_the_very_list(self):
        handed = [vessel(), None]
        error = self.refused(NoKind, Train, handed)
        handed.append("later")
        self.assertIs(error.found, handed)

    def test_odd_things(self):
        for thing in odd_things():
            self.refused_of(NoKind, thing, Train, thing)


if __name__ == "__main__":
    unittest.main()
