"""Promises [2], [4] and the pause of [10], and the interface on handrounds/rounds/couriers.py."""

import itertools
import unittest

from handrounds.errors import BadName
from handrounds.rounds.couriers import Courier
from handrounds.rounds.rounds import Round
from samples import BILLION, EIGHT, FAR, FARTHEST, NAMES, NO_NAMES, fixed

WAY = Round(6, (0, "mill"), (2, "port"))


def every_round(longest):
    """Each set of ticks in each short period, every stop with a place of its own."""
    for period in range(1, longest + 1):
        for many in range(period + 1):
            for ticks in itertools.combinations(range(period), many):
                yield period, tuple((tick, "abcdefgh"[tick]) for tick in ticks)


class Making(unittest.TestCase):
    def test_attributes(self):
        told = Courier("anna", WAY, 1, 0)
        self.assertEqual(vars(told), {"name": "anna", "way": WAY, "start": 1, "since": 0})
        self.assertIs(told.way, WAY)

    def test_limits(self):
        for start in (-FARTHEST, -1, 0, 1, FARTHEST):
            for since in (0, 1, FAR):
                told = Courier("anna", WAY, start, since)
                self.assertEqual((told.start, told.since), (start, since))

    def test_by_keyword(self):
        told = Courier(since=3, start=-4, way=WAY, name="anna")
        self.assertEqual(told, Courier("anna", WAY, -4, 3))
        self.assertEqual(told.place_at(tick=8), "mill")
        self.assertEqual(told.next_stop(tick=0), (4, "port"))
        self.assertEqual(told.last_stop(tick=7), (4, "port"))
        self.assertEqual(told.paused(ticks=2, tick=9), Courier("anna", WAY, -2, 11))

    def test_names(self):
        for name in NAMES:
            with self.subTest(name=name):
                self.assertEqual(Courier(name, WAY, 1, 0).name, name)

    def test_no_names(self):
        for name in NO_NAMES:
            with self.subTest(name=name):
                with self.assertRaises(BadName) as caught:
                    Courier(name, WAY, 1, 0)
                self.assertEqual(caught.exception.name, name)


class ShownAndEqual(unittest.TestCase):
    def test_repr(self):
        self.assertEqual(repr(Courier("anna", WAY, 1, 0)), "Courier(anna from 1 since 0)")
        self.assertEqual(repr(Courier("z", Round(1), -7, 12)), "Courier(z from -7 since 12)")
        self.assertEqual(repr(Courier("bert", WAY, -FARTHEST, FAR)),
                         "Courier(bert from -1" + 32 * "0" + " since 1" + 30 * "0" + ")")

    def test_in_an_f_string_and_in_a_list(self):
        anna = Courier("anna", WAY, 1, 0)
        self.assertEqual(f"<{anna}> {[anna]}", "<Courier(anna from 1 since 0)> [Courier(anna from 1 since 0)]")

    def test_equal_attributes(self):
        one, two = Courier("anna", WAY, 1, 0), Courier("anna", Round(6, (0, "mill"), (2, "port")), 1, 0)
        self.assertIs(one == two, True)
        self.assertIs(one != two, False)

    def test_each_attribute_counts(self):
        one = Courier("anna", WAY, 1, 0)
        for other in (Courier("bert", WAY, 1, 0), Courier("anna", Round(6, (0, "mill")), 1, 0),
                      Courier("anna", WAY, 7, 0), Courier("anna", WAY, 1, 1)):
            with self.subTest(other=other):
                self.assertIs(one == other, False)
                self.assertIs(one != other, True)

    def test_other_kinds(self):
        one = Courier("anna", WAY, 1, 0)
        for other in ("anna", 1, None, True, WAY, ("anna", WAY, 1, 0), repr(one), Courier, object()):
            with self.subTest(other=other):
                self.assertIs(one == other, False)
                self.assertIs(other == one, False)


class Stops(unittest.TestCase):
    """Examples worked out by hand: with start 1, anna is at mill at 1, 7, 13 .. and at port at 3, 9, 15 .."""

    def assert_stops(self, courier, rows):
        for tick, place, following, last in rows:
            with self.subTest(courier=courier, tick=tick):
                self.assertEqual(courier.place_at(tick), place)
                self.assertEqual(courier.next_stop(tick), following)
                self.assertEqual(courier.last_stop(tick), last)

    def test_the_example_of_the_document(self):
        anna = Courier("anna", Round(6, (0, "mill"), (2, "port")), 1, 0)
        told = [anna.place_at(7), anna.place_at(8), anna.next_stop(4), anna.last_stop(2), anna.paused(10, 5)]
        self.assertEqual(repr(told), "['mill', '', (7, 'mill'), (1, 'mill'), Courier(anna from 6 since 15)]")

    def test_at_stops_and_between_them(self):
        self.assert_stops(Courier("anna", WAY, 1, 0), (
            (0, "", (1, "mill"), None),
            (1, "mill", (1, "mill"), (1, "mill")),
            (2, "", (3, "port"), (1, "mill")),
            (3, "port", (3, "port"), (3, "port")),
            (4, "", (7, "mill"), (3, "port")),
            (6, "", (7, "mill"), (3, "port")),
            (7, "mill", (7, "mill"), (7, "mill")),
            (8, "", (9, "port"), (7, "mill")),
        ))

    def test_before_at_and_behind_the_tick_since_which_it_goes(self):
        self.assert_stops(Courier("anna", WAY, 1, 9), (
            (0, "", (9, "port"), None),
            (7, "", (9, "port"), None),
            (8, "", (9, "port"), None),
            (9, "port", (9, "port"), (9, "port")),
            (10, "", (13, "mill"), (9, "port")),
            (13, "mill", (13, "mill"), (13, "mill")),
        ))
        self.assert_stops(Courier("anna", WAY, 1, 10), (
            (3, "", (13, "mill"), None),
            (9, "", (13, "mill"), None),
            (10, "", (13, "mill"), None),
            (12, "", (13, "mill"), None),
            (13, "mill", (13, "mill"), (13, "mill")),
            (14, "", (15, "port"), (13, "mill")),
        ))

    def test_starts_below_zero(self):
        self.assert_stops(Courier("anna", WAY, -7, 0), (
            (0, "", (1, "port"), None),
            (1, "port", (1, "port"), (1, "port")),
            (4, "", (5, "mill"), (1, "port")),
            (5, "mill", (5, "mill"), (5, "mill")),
        ))

    def test_starts_ahead(self):
        # A round has no beginning, so it is gone round before its start as well.
        self.assert_stops(Courier("anna", WAY, 601, 0), (
            (1, "mill", (1, "mill"), (1, "mill")),
            (4, "", (7, "mill"), (3, "port")),
        ))

    def test_rounds_without_stops(self):
        for start in (-FARTHEST, -1, 0, 5, FARTHEST):
            for since in (0, 4, FAR):
                self.assert_stops(Courier("anna", Round(3), start, since), (
                    (0, "", None, None), (4, "", None, None), (5, "", None, None), (FAR, "", None, None)))

    def test_always_at_one_place(self):
        self.assert_stops(Courier("anna", Round(1, (0, "mill")), -4, 2), (
            (1, "", (2, "mill"), None), (2, "mill", (2, "mill"), (2, "mill")), (3, "mill", (3, "mill"), (3, "mill"))))

    def test_same_place_twice_in_a_round(self):
        self.assert_stops(Courier("anna", Round(5, (1, "mill"), (4, "mill")), 0, 0), (
            (0, "", (1, "mill"), None), (2, "", (4, "mill"), (1, "mill")), (5, "", (6, "mill"), (4, "mill"))))

    def test_eight_stops(self):
        courier = Courier("anna", Round(22, *EIGHT), 100, 50)
        places = [courier.place_at(tick) for tick in range(100, 122)]
        self.assertEqual(places, [place for number in range(8) for place in ("abcdefgh"[number], "", "")][:22])
        self.assertEqual([courier.place_at(tick) for tick in range(56, 78)], places)

    def test_kinds_of_the_answers(self):
        anna = Courier("anna", WAY, 1, 0)
        self.assertEqual([type(told) for told in (anna.place_at(0), anna.next_stop(0), anna.last_stop(3))],
                         [str, tuple, tuple])


class TickByTick(unittest.TestCase):
    """Short periods, compared with point 4 at each single tick."""

    def compare(self, period, stops, start, since):
        courier = Courier("anna", Round(period, *stops), start, since)
        end = since + 3 * period + 3
        places = [fixed(tick, period, stops, start, since) for tick in range(end)]
        here = [(tick, places[tick]) for tick in range(end) if places[tick] != ""]
        for tick in range(end - period):
            where = (period, stops, start, since, tick)
            following = [stop for stop in here if stop[0] >= tick]
            behind = [stop for stop in here if stop[0] <= tick]
            self.assertEqual(courier.place_at(tick), places[tick], where)
            self.assertEqual(courier.next_stop(tick), following[0] if following else None, where)
            self.assertEqual(courier.last_stop(tick), behind[-1] if behind else None, where)

    def test_all_short_rounds(self):
        for period, stops in every_round(5):
            for start in range(-period - 1, period + 2):
                for since in (0, 1, 2, period, 7):
                    self.compare(period, stops, start, since)

    def test_starts_far_away(self):
        for period, stops in every_round(4):
            for start in (-FARTHEST, -FARTHEST + 1, -BILLION, FAR, FARTHEST - 1, FARTHEST):
                for since in (0, 3):
                    self.compare(period, stops, start, since)

    def test_pauses(self):
        for period, stops in every_round(3):
            for start, since, tick, ticks in itertools.product((-2, 0, 3), (0, 4), (0, 3, 4, 5, 9), (1, 2, 5)):
                told = Courier("anna", Round(period, *stops), start, since).paused(tick, ticks)
                going = max(since, tick) + ticks
                places = [fixed(moment, period, stops, start + ticks, going) for moment in range(going + 8)]
                self.assertEqual([told.place_at(moment) for moment in range(going + 8)], places)


class AtOnce(unittest.TestCase):
    """Long periods and far ticks, that no counting would get through."""

    def test_long_period(self):
        way = Round(BILLION, (0, "mill"), (BILLION - 1, "port"))
        courier = Courier("anna", way, 5, 0)
        self.assertEqual(courier.next_stop(6), (BILLION + 4, "port"))
        self.assertEqual(courier.last_stop(BILLION + 3), (5, "mill"))
        self.assertEqual(courier.next_stop(FAR), (FAR + 4, "port"))
        self.assertEqual(courier.last_stop(FAR), (FAR - BILLION + 5, "mill"))
        self.assertEqual(courier.place_at(FAR + 5), "mill")
        self.assertEqual(courier.place_at(FAR), "")

    def test_far_since(self):
        courier = Courier("anna", Round(BILLION, (7, "mill")), -FARTHEST, FAR)
        self.assertEqual(courier.next_stop(0), (FAR + 7, "mill"))
        self.assertIsNone(courier.last_stop(FAR + 6))
        self.assertEqual(courier.last_stop(FAR + 7), (FAR + 7, "mill"))
        self.assertEqual(courier.place_at(7), "")
        self.assertEqual(courier.place_at(FAR + 7), "mill")

    def test_far_start(self):
        courier = Courier("anna", Round(BILLION - 1, (3, "mill")), FARTHEST, 0)
        first = (FARTHEST + 3) % (BILLION - 1)
        self.assertEqual(courier.next_stop(0), (first, "mill"))
        self.assertIsNone(courier.last_stop(first - 1))
        self.assertEqual(courier.next_stop(first + 1), (first + BILLION - 1, "mill"))

    def test_shortest_period_far_away(self):
        courier = Courier("anna", Round(1, (0, "mill")), FARTHEST, 0)
        self.assertEqual(courier.next_stop(FAR), (FAR, "mill"))
        self.assertEqual(courier.last_stop(FAR), (FAR, "mill"))

    def test_many_far_ticks(self):
        ticks = tuple(range(0, BILLION, 125 * 10 ** 6))
        way = Round.of(BILLION, tuple((tick, "abcdefgh"[number]) for number, tick in enumerate(ticks)))
        for start in (-FARTHEST + 1, 1, FARTHEST + 1):
            courier = Courier("anna", way, start, 0)
            for number, tick in enumerate(ticks):
                here = (FAR + tick + 1, "abcdefgh"[number])
                self.assertEqual(courier.place_at(here[0]), here[1])
                self.assertEqual(courier.next_stop(here[0] - 125 * 10 ** 6 + 1), here)
                self.assertEqual(courier.last_stop(here[0] + 125 * 10 ** 6 - 1), here)


class Paused(unittest.TestCase):
    def assert_paused(self, start, since, tick, ticks, wanted):
        anna = Courier("anna", WAY, start, since)
        told = anna.paused(tick, ticks)
        with self.subTest(start=start, since=since, tick=tick, ticks=ticks):
            self.assertIs(type(told), Courier)
            self.assertEqual((told.name, told.way, told.start, told.since), ("anna", WAY) + wanted)
            self.assertEqual(vars(anna), {"name": "anna", "way": WAY, "start": start, "since": since})

    def test_behind_the_tick_since_which_it_goes(self):
        self.assert_paused(1, 0, 10, 5, (6, 15))
        self.assert_paused(1, 9, 10, 1, (2, 11))

    def test_at_it(self):
        self.assert_paused(1, 10, 10, 5, (6, 15))
        self.assert_paused(-3, 0, 0, 1, (-2, 1))

    def test_before_it(self):
        self.assert_paused(1, 20, 10, 5, (6, 25))
        self.assert_paused(1, 11, 10, 5, (6, 16))
        self.assert_paused(0, 20, 0, 1, (1, 21))

    def test_limits(self):
        self.assert_paused(-FARTHEST, 0, FAR, BILLION, (BILLION - FARTHEST, FAR + BILLION))
        self.assert_paused(FARTHEST, FAR, 0, BILLION, (FARTHEST + BILLION, FAR + BILLION))

    def test_twice(self):
        told = Courier("anna", WAY, 1, 0).paused(10, 5).paused(12, 2)
        self.assertEqual((told.start, told.since), (8, 17))

    def test_a_paused_courier_is_nowhere_and_then_late(self):
        told = Courier("anna", WAY, 1, 0).paused(7, 4)
        self.assertEqual([told.place_at(tick) for tick in range(14)], [""] * 11 + ["mill", "", "port"])
        self.assertEqual((told.next_stop(0), told.last_stop(10)), ((11, "mill"), None))


class NothingChanges(unittest.TestCase):
    def test_calls_leave_the_courier_as_it_is_and_can_be_repeated(self):
        way = Round(6, (0, "mill"), (2, "port"))
        anna = Courier("anna", way, 1, 4)
        calls = (lambda: anna.place_at(7), lambda: anna.next_stop(0), lambda: anna.last_stop(30),
                 lambda: anna.paused(9, 3), lambda: repr(anna), lambda: anna == Courier("anna", way, 1, 4))
        first = [call() for call in calls]
        self.assertEqual([call() for call in reversed(calls)], first[::-1])
        self.assertEqual(vars(anna), {"name": "anna", "way": way, "start": 1, "since": 4})
        self.assertEqual(vars(way), {"period": 6, "stops": ((0, "mill"), (2, "port"))})

    def test_equal_arguments_give_equal_answers(self):
        one, two = Courier("anna", WAY, 1, 4), Courier("anna", Round.of(6, WAY.stops), 1, 4)
        for tick in range(20):
            self.assertEqual((one.place_at(tick), one.next_stop(tick), one.last_stop(tick), one.paused(tick, 3)),
                             (two.place_at(tick), two.next_stop(tick), two.last_stop(tick), two.paused(tick, 3)))


if __name__ == "__main__":
    unittest.main()
