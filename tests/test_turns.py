"""[46]: who gets the services where all wait again and again."""

import random
import unittest

from ownmoment.errors import TooMany
from ownmoment.turns import keeps_waiting, round_of, served_ahead, shares_of, turns_of
from tests import machine_model, model
from tests.machine_books import one_row
from tests.samples import asked
from tests.test_machines import chance_machine
from tests.test_serving import QUEUE, STACK, THRICE

LATER, EARLIER = "later", "earlier"
A, B, C, D = (0, 0), (0, 1), (0, 2), (0, 3)

# Those at the point 0 go ahead once, and then to the back, the first one twice behind each other.
TWICE = (one_row((0,), [(1, EARLIER, 0, 1), (0, EARLIER, 0, 1)], (((1, (-1,)),), ((0, (-1,)),))), 1, (0, 1))


def keeping(house):
    """By the definition: the point, and each one to which the deed leads, is one of waits."""
    machine, served, waits = house
    found = []
    for point in range(len(machine[1])):
        at, came = point, []
        while at in waits and at not in came:
            came.append(at)
            at = machine[2][at][served - 1][0]
        if at in waits:
            found.append(point)
    return tuple(found)


def played(house, figures, many):
    """The things served one after the other, and the stands ahead of each service and behind the last one."""
    machine, served, waits = house
    there = dict(figures)
    now = max(moment for _, times in there.values() for moment in times) + 5
    got, stands = [], []
    for at in range(many + 1):
        moments = sorted((moment, x) for x, (_, times) in there.items() for moment in times)
        stands.append((sorted((x, point) for x, (point, _) in there.items()), [x for _, x in moments]))
        first = [x for x in machine_model.row_of(machine, 0, there.items()) if there[x][0] in waits][0]
        got.append(first)
        point, times = there[first]
        behind, take = machine[2][point][served - 1]
        there[first] = (behind, tuple(now + at if k < 0 else times[k] for k in take))
    return got[:-1], stands


def first_again(stands):
    """How many services there are until a stand comes for the second time, or None."""
    for at in range(len(stands)):
        if stands[at] in stands[:at]:
            return at
    return None


def shortest(got, sure):
    """The shortest way and round, sure services being enough to have gone through both."""
    for way in range(sure):
        for many in range(1, sure + 1):
            if all(got[at] == got[at + many] for at in range(way, len(got) - many)):
                return got[:way], got[way:way + many]
    return None


def drawn_keeping(chance):
    """A house with points that keep waiting."""
    while True:
        machine = chance_machine(chance)
        if not machine[2][0]:
            continue
        served = chance.randrange(1, len(machine[2][0]) + 1)
        let = [point for point, move in enumerate(machine[2]) if move[served - 1] is not None]
        waits = tuple(point for point in let if chance.random() < .9)
        if waits and keeping((machine, served, waits)):
            return (machine, served, waits)


def drawn_figures(chance, house, many):
    machine = house[0]
    points = [chance.choice(keeping(house)) for _ in range(many)]
    times = chance.sample(range(2, 60), sum(machine[1][point][1] for point in points))
    figures = []
    for number, point in enumerate(points):
        live = machine[1][point][1]
        figures.append(((number % len(machine[0]), number), (point, tuple(sorted(times[:live])))))
        times = times[live:]
    return sorted(figures)


def ring_house(way, many):
    """Of one thing the stands are those of a way, and then of so many points one behind the other."""
    points = [(0, EARLIER, 0, 1)] * (way + many)
    moves = tuple(((at + 1 if at + 1 < way + many else way, (0,)),) for at in range(way + many))
    return (one_row((0,), points, moves), 1, tuple(range(way + many)))


class KeepsWaitingTest(unittest.TestCase):

    def test_by_hand(self):
        self.assertEqual(keeps_waiting(QUEUE), (0,))
        self.assertEqual(keeps_waiting(STACK), (0,))
        self.assertEqual(keeps_waiting(THRICE), (0, 1, 2, 3))
        self.assertEqual(keeps_waiting(TWICE), (0, 1))
        # The point 1 leads to one that does not wait, though it could be served there.
        self.assertEqual(keeps_waiting((THRICE[0], 1, (0, 1, 2))), ())
        self.assertEqual(keeps_waiting((THRICE[0], 1, (0, 3))), (3,))
        self.assertEqual(keeps_waiting((TWICE[0], 1, (0,))), ())

    def test_waiting_that_leads_out_much_later(self):
        house = ring_house(40, 3)
        self.assertEqual(keeps_waiting(house), tuple(range(43)))
        for out in (0, 20, 39):
            self.assertEqual(keeps_waiting((house[0], 1, tuple(point for point in range(43) if point != out))), tuple(range(out + 1, 43)))
        for out in (40, 41, 42):
            self.assertEqual(keeps_waiting((house[0], 1, tuple(point for point in range(43) if point != out))), ())

    def test_as_the_definition_says(self):
        chance = random.Random(401)
        seen = set()
        for _ in range(400):
            machine = chance_machine(chance)
            if not machine[2][0]:
                continue
            served = chance.randrange(1, len(machine[2][0]) + 1)
            waits = tuple(point for point, move in enumerate(machine[2]) if move[served - 1] is not None and chance.random() < .8)
            if waits:
                found = asked(keeps_waiting, (machine, served, waits))
                self.assertEqual(found, keeping((machine, served, waits)))
                seen.add("all" if found == waits else "some" if found else "none")
        self.assertEqual(seen, {"all", "some", "none"})


class TurnsTest(unittest.TestCase):

    def test_by_hand(self):
        figures = [(A, (0, (4,))), (B, (0, (2,))), (C, (0, (3,)))]
        self.assertEqual(turns_of(QUEUE, figures, 7), [B, C, A, B, C, A, B])
        self.assertEqual(turns_of(STACK, figures, 4), [A, A, A, A])
        self.assertEqual(turns_of(QUEUE, figures, 0), [])
        self.assertEqual(turns_of(QUEUE, figures, 1), [B])
        self.assertEqual(turns_of(QUEUE, figures, 2000), ([B, C, A] * 667)[:2000])
        self.assertEqual(turns_of(TWICE, figures, 8), [B, B, C, C, A, A, B, B])

    def test_as_played(self):
        chance = random.Random(402)
        for _ in range(250):
            house = drawn_keeping(chance)
            figures = drawn_figures(chance, house, chance.randrange(1, 8))
            many = chance.choice((0, 1, 2, 3, 30))
            self.assertEqual(asked(turns_of, house, figures, many), played(house, figures, many)[0])

    def test_many_services(self):
        chance = random.Random(403)
        for many in (1, 2, 3, 5):
            house = drawn_keeping(chance)
            figures = drawn_figures(chance, house, many)
            self.assertEqual(turns_of(house, figures, 2000), played(house, figures, 2000)[0])


class RoundTest(unittest.TestCase):

    def test_by_hand(self):
        figures = [(A, (0, (4,))), (B, (0, (2,))), (C, (0, (3,)))]
        self.assertEqual(round_of(QUEUE, figures), ([], [B, C, A]))
        self.assertEqual(shares_of(QUEUE, figures), [(A, 1), (B, 1), (C, 1)])
        self.assertEqual(round_of(STACK, figures), ([], [A]))
        self.assertEqual(shares_of(STACK, figures), [(A, 1), (B, 0), (C, 0)])
        self.assertEqual(round_of(TWICE, figures), ([], [B, B, C, C, A, A]))
        self.assertEqual(shares_of(TWICE, figures), [(A, 2), (B, 2), (C, 2)])

    def test_a_way(self):
        # Each is served until it is at the last point; there the first one stays foremost.
        figures = [(A, (0, (4,))), (B, (2, (2,))), (C, (3, (3,)))]
        self.assertEqual(round_of(THRICE, figures), ([A, A, B, A], [B]))
        self.assertEqual(shares_of(THRICE, figures), [(A, 0), (B, 1), (C, 0)])

    def test_stands_that_take_longer(self):
        # One thing alone goes through three points, but is served each time.
        figures = [(A, (0, (4,)))]
        self.assertEqual(round_of(ring_house(0, 3), figures), ([], [A]))
        self.assertEqual(round_of(ring_house(5, 3), figures), ([], [A]))
        self.assertEqual(shares_of(ring_house(5, 3), figures), [(A, 1)])
        # Two things take turns, by points that come again behind six services of each.
        points = [(0, EARLIER, 0, 1)] * 6
        house = (one_row((0,), points, tuple((((at + 1) % 6, (-1,)),) for at in range(6))), 1, tuple(range(6)))
        figures = [(A, (0, (4,))), (B, (2, (9,)))]
        self.assertEqual(first_again(played(house, figures, 14)[1]), 12)
        self.assertEqual(round_of(house, figures), ([], [A, B]))
        self.assertEqual(shares_of(house, figures), [(A, 1), (B, 1)])

    def test_as_played(self):
        chance = random.Random(404)
        seen = set()
        for _ in range(500):
            house = drawn_keeping(chance)
            figures = drawn_figures(chance, house, chance.randrange(1, 8))
            again = first_again(played(house, figures, 60)[1])
            if again is None:
                continue
            way, ring = asked(round_of, house, figures)
            got = played(house, figures, 2 * again + 2)[0]
            self.assertEqual((way, ring), shortest(got, again), (house, figures))
            self.assertIs(type(round_of(house, figures)), tuple)
            self.assertEqual(asked(shares_of, house, figures), [(x, ring.count(x)) for x, _ in figures])
            seen.add((len(figures), "way" if way else "none", min(len(ring), 3)))
            if first_again(played(house, figures, 60)[1]) > len(way) + len(ring):
                seen.add("longer")
            if any(x not in ring for x, _ in figures):
                seen.add("left out")
        self.assertTrue({"longer", "left out", (1, "none", 1), (2, "way", 1), (7, "none", 3), (2, "way", 2), (7, "way", 3)} <= seen, seen)

    def test_too_many(self):
        figures = [(A, (0, (4,)))]
        for way, many in ((0, 2000), (1, 1999), (700, 1300), (1999, 1)):
            house = ring_house(way, many)
            self.assertEqual(round_of(house, figures), ([], [A]))
            self.assertEqual(shares_of(house, figures), [(A, 1)])
            self.assertEqual(served_ahead(house, (0, (4,)), (way, (9,)), 400), 0)
        for way, many in ((0, 2001), (1, 2000), (700, 1301), (2000, 1)):
            house = ring_house(way, many)
            for call in (lambda: round_of(house, figures), lambda: shares_of(house, figures), lambda: served_ahead(house, (0, (4,)), (way, (9,)), 1)):
                with self.assertRaises(TooMany) as caught:
                    call()
                self.assertEqual(caught.exception.most, 2000)
            # The services themselves can be told.
            self.assertEqual(turns_of(house, figures, 2000), [A] * 2000)

    def test_too_many_by_the_order_of_moments(self):
        # Two rings of 40 and 51 points: all points together come again behind 2 * 2,040 services.
        points = [(0, EARLIER, 0, 1)] * 91
        moves = tuple((((at + 1) % 40, (-1,)),) for at in range(40)) + tuple(((40 + (at + 1) % 51, (-1,)),) for at in range(51))
        house = (one_row((0,), points, moves), 1, tuple(range(91)))
        with self.assertRaises(TooMany):
            round_of(house, [(A, (0, (1,))), (B, (40, (2,)))])
        self.assertEqual(round_of(house, [(A, (0, (1,))), (B, (3, (2,)))]), ([], [A, B]))
        self.assertEqual(round_of(house, [(A, (41, (1,))), (B, (49, (2,)))]), ([], [A, B]))


class ServedAheadTest(unittest.TestCase):

    def test_by_hand(self):
        x, y = (0, (4,)), (0, (2,))
        self.assertEqual([served_ahead(QUEUE, x, y, count) for count in (1, 2, 3, 400)], [1, 2, 3, 400])
        self.assertEqual([served_ahead(QUEUE, y, x, count) for count in (1, 2, 3, 400)], [0, 1, 2, 399])
        self.assertEqual([served_ahead(STACK, x, y, count) for count in (1, 400)], [0, 0])
        self.assertEqual([served_ahead(STACK, y, x, count) for count in (1, 400)], [None, None])
        self.assertEqual([served_ahead(TWICE, x, y, count) for count in (1, 2, 3, 4, 5)], [2, 2, 4, 4, 6])
        # Three services, and none behind these.
        self.assertEqual([served_ahead(THRICE, (0, (4,)), (3, (2,)), count) for count in (1, 2, 3, 4)], [0, 0, 0, None])
        self.assertEqual([served_ahead(THRICE, (3, (2,)), (0, (4,)), count) for count in (1, 2, 400)], [3, 3, 3])

    def test_as_played(self):
        chance = random.Random(405)
        seen = set()
        for _ in range(300):
            house = drawn_keeping(chance)
            figures = drawn_figures(chance, house, 2)
            again = first_again(played(house, figures, 60)[1])
            if again is None:
                continue
            (x, one), (y, other) = figures
            got = played(house, figures, 100)[0]
            for count in (1, 2, 3, chance.randrange(1, 30)):
                places = [at for at, who in enumerate(got) if who == x]
                found = asked(served_ahead, house, one, other, count)
                if len(places) >= count:
                    self.assertEqual(found, got[:places[count - 1]].count(y))
                    seen.add(min(found, 2))
                elif x not in got[again:]:
                    self.assertIsNone(found)
                    seen.add(None)
        self.assertEqual(seen, {None, 0, 1, 2})

    def test_great_counts(self):
        chance = random.Random(406)
        for _ in range(12):
            house = drawn_keeping(chance)
            figures = drawn_figures(chance, house, 2)
            got = played(house, figures, 2000)[0]
            for count in (399, 400):
                places = [at for at, who in enumerate(got) if who == figures[0][0]]
                if len(places) >= count:
                    self.assertEqual(served_ahead(house, figures[0][1], figures[1][1], count), places[count - 1] - count + 1)

    def test_in_a_company(self):
        """The service of this number comes behind the sum of what each other one alone gets, or never."""
        chance = random.Random(407)
        seen = set()
        for _ in range(120):
            house = drawn_keeping(chance)
            figures = drawn_figures(chance, house, chance.randrange(2, 7))
            got = played(house, figures, 250)[0]
            for x, figure in figures[:2]:
                for count in (1, 2, 4):
                    ahead = [served_ahead(house, figure, other, count) for y, other in figures if y != x]
                    places = [at for at, who in enumerate(got) if who == x]
                    if None in ahead:
                        self.assertLess(len(places), count)
                        seen.add("never")
                    else:
                        self.assertEqual(places[count - 1] - count + 1, sum(ahead))
                        seen.add(len(figures))
        self.assertEqual(seen, {"never", 2, 3, 4, 5, 6})


if __name__ == "__main__":
    unittest.main()
