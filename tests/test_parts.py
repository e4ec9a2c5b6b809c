import random
import unittest

from pourhall.parts import held_by, order_of, walked

from samples import AXES, WAYS, bar, other_lines, shifted


def cube(x, y, z, way):
    return ([(x, y, z)], way)


# Each is held by all that stand behind it in the list.
ROW = [cube(x, 0, 0, "+x") for x in range(5)]
PAIR = [cube(0, 0, 0, "+x"), cube(1, 0, 0, "-x")]
# Each is held by the next one alone, the last by the first.
THREE = [cube(0, 0, 0, "+x"), cube(3, 0, 0, "+z"), ([(0, 5, 0), (3, 0, 3)], "-y")]
FOUR = [cube(0, 0, 0, "+x"), cube(3, 0, 0, "+y"), cube(3, 3, 0, "-x"), cube(0, 3, 0, "-y")]


def stairs():
    """Twenty parts, each held by the next one alone, the last by none."""
    return [cube((k + 1) // 2, k // 2, 0, "+y" if k % 2 else "+x") for k in range(20)]


def ring_of_twenty():
    parts = stairs()
    parts[19] = cube(10, 9, 0, "-z")
    parts[0] = ([(0, 0, 0), (10, 9, -5)], "+x")
    return parts


def ahead(cell, other, way):
    place = AXES.index(way[1])
    farther = other[place] > cell[place] if way[0] == "+" else other[place] < cell[place]
    return farther and other_lines(cell, way[1]) == other_lines(other, way[1])


def slow_held_by(parts):
    return [[j for j, other in enumerate(parts)
             if j != i and any(ahead(cell, hinder, part[1]) for cell in part[0] for hinder in other[0])]
            for i, part in enumerate(parts)]


def some_parts(seed):
    """Parts by a fixed seed: few cells in a small room, dealt out to parts, so that some hold one another."""
    source = random.Random(seed)
    size = source.randint(2, 5)
    room = [(x, y, z) for x in range(size) for y in range(size) for z in range(size)]
    source.shuffle(room)
    count = source.randint(1, min(20, len(room)))
    most = source.choice([1, 2, 3])
    parts = []
    for k in range(count):
        taken = room[:source.randint(1, most)]
        room = room[len(taken):]
        if taken:
            parts.append((sorted(taken), source.choice(WAYS[:source.choice([2, 6])])))
    return parts


class TestHeldBy(unittest.TestCase):
    def test_each_way(self):
        for way in WAYS:
            hinder = shifted((1, 2, 3), way[1], 5 if way[0] == "+" else -5)
            for other in WAYS:
                parts = [([(1, 2, 3)], other), ([(40, 40, 40)], "+x"), ([hinder], way)]
                self.assertEqual(held_by(parts), [[2] if other == way else [], [], []])

    def test_none_and_one(self):
        self.assertEqual(held_by([]), [])
        self.assertEqual(held_by([cube(0, 0, 0, "+x")]), [[]])

    def test_a_part_does_not_hold_itself(self):
        self.assertEqual(held_by([([(0, 0, 0), (3, 0, 0)], "+x")]), [[]])
        self.assertEqual(held_by([([(0, 0, 0), (3, 0, 0)], "+x"), cube(2, 0, 0, "+y")]), [[1], []])

    def test_all_that_hold_it_rising(self):
        self.assertEqual(held_by(ROW), [[1, 2, 3, 4], [2, 3, 4], [3, 4], [4], []])
        self.assertEqual(held_by([(body, "-x") for body, way in ROW]), [[], [0], [0, 1], [0, 1, 2], [0, 1, 2, 3]])

    def test_held_by_one_another(self):
        self.assertEqual(held_by(PAIR), [[1], [0]])
        self.assertEqual(held_by(THREE), [[1], [2], [0]])
        self.assertEqual(held_by(FOUR), [[1], [2], [3], [0]])

    def test_the_far_ends_of_a_line(self):
        self.assertEqual(held_by([cube(0, -60, 0, "+y"), cube(0, 60, 0, "+y")]), [[1], []])
        self.assertEqual(held_by([cube(0, -60, 0, "-y"), cube(0, 60, 0, "-y")]), [[], [0]])

    def test_twenty_parts(self):
        self.assertEqual(held_by(stairs()), [[k + 1] for k in range(19)] + [[]])
        self.assertEqual(held_by(ring_of_twenty()), [[(k + 1) % 20] for k in range(20)])

    def test_as_a_slow_way_tells(self):
        for seed in range(200):
            parts = some_parts(seed)
            self.assertEqual(held_by(parts), slow_held_by(parts))


class TestOrderOf(unittest.TestCase):
    def is_ring(self, parts, told):
        """Asks whether two or more unlike parts are told, each held by the next one, the last by the first."""
        kind, numbers = told
        self.assertEqual(kind, "ring")
        self.assertIsInstance(numbers, list)
        self.assertGreaterEqual(len(numbers), 2)
        self.assertEqual(len(numbers), len(set(numbers)))
        holders = slow_held_by(parts)
        for number, holder in zip(numbers, numbers[1:] + numbers[:1]):
            self.assertIn(holder, holders[number])

    def test_none_one_and_none_held(self):
        self.assertEqual(order_of([]), ("order", []))
        self.assertEqual(order_of([cube(0, 0, 0, "-z")]), ("order", [0]))
        self.assertEqual(order_of([cube(0, 0, z, "+x") for z in range(6)]), ("order", [0, 1, 2, 3, 4, 5]))
        self.assertEqual(order_of([cube(0, 0, z, "+y") for z in range(20)]), ("order", list(range(20))))

    def test_a_row_from_either_end(self):
        self.assertEqual(order_of(ROW), ("order", [4, 3, 2, 1, 0]))
        self.assertEqual(order_of([(body, "-x") for body, way in ROW]), ("order", [0, 1, 2, 3, 4]))

    def test_the_least_that_is_free_goes_each_time(self):
        # 0 waits for 3; 1 and 2 are free at once; when 3 is gone, 0 goes ahead of 4.
        parts = [cube(0, 0, 0, "+x"), cube(0, 1, 0, "+z"), cube(0, 2, 0, "+z"), cube(5, 0, 0, "+z"), cube(0, 3, 0, "+z")]
        self.assertEqual(order_of(parts), ("order", [1, 2, 3, 0, 4]))

    def test_two_that_hold_each_other(self):
        self.is_ring(PAIR, order_of(PAIR))

    def test_rings_of_three_four_and_twenty(self):
        for parts in [THREE, FOUR, ring_of_twenty()]:
            self.is_ring(parts, order_of(parts))
            self.assertEqual(sorted(order_of(parts)[1]), list(range(len(parts))))

    def test_parts_that_lead_to_a_ring_are_none_of_it(self):
        # 0 is held by 1, 1 by 2, and only 2 and 3 hold each other; 4 is free.
        parts = [cube(0, 0, 0, "+x"), cube(1, 0, 0, "+y"), cube(1, 2, 0, "+x"), cube(2, 2, 0, "-x"), cube(9, 9, 9, "+x")]
        self.assertEqual(held_by(parts), [[1], [2], [3], [2], []])
        self.is_ring(parts, order_of(parts))
        self.assertEqual(sorted(order_of(parts)[1]), [2, 3])

    def test_a_ring_of_those_still_there_alone(self):
        # 0 is held by 2 as well, but 2 comes away.
        parts = [cube(0, 0, 0, "+x"), cube(5, 0, 0, "-x"), cube(3, 0, 0, "+z")]
        self.assertEqual(sorted(order_of(parts)[1]), [0, 1])
        self.is_ring(parts, order_of(parts))

    def test_twenty_parts(self):
        self.assertEqual(order_of(stairs()), ("order", list(range(19, -1, -1))))

    def test_twenty_parts_of_600_cells(self):
        parts = [(bar(600, z=z), "+z") for z in range(20)]
        self.assertEqual(order_of(parts), ("order", list(range(19, -1, -1))))

    def test_as_the_holders_say(self):
        kinds = []
        for seed in range(200):
            parts = some_parts(seed)
            holders = slow_held_by(parts)
            told = order_of(parts)
            kinds.append(told[0])
            there = set(range(len(parts)))
            gone = []
            while any(not there & set(holders[k]) for k in there):
                gone.append(min(k for k in there if not there & set(holders[k])))
                there.remove(gone[-1])
            if there:
                self.is_ring(parts, told)
                self.assertLessEqual(set(told[1]), there)
            else:
                self.assertEqual(told, ("order", gone))
        self.assertGreater(kinds.count("order"), 20)
        self.assertGreater(kinds.count("ring"), 20)


class TestWalked(unittest.TestCase):
    def test_free(self):
        self.assertIsNone(walked([], []))
        self.assertIsNone(walked([cube(0, 0, 0, "+x")], [0]))
        self.assertIsNone(walked(ROW, [4, 3, 2, 1, 0]))
        self.assertIsNone(walked(stairs(), list(range(19, -1, -1))))

    def test_another_order_than_the_told_one_may_be_free(self):
        parts = [cube(0, 0, z, "+x") for z in range(4)]
        self.assertIsNone(walked(parts, [3, 1, 0, 2]))

    def test_the_first_that_is_held_and_its_least_holder(self):
        self.assertEqual(walked(ROW, [0, 1, 2, 3, 4]), (0, 1))
        self.assertEqual(walked(ROW, [4, 0, 3, 2, 1]), (0, 1))
        self.assertEqual(walked(ROW, [4, 1, 3, 2, 0]), (1, 2))
        self.assertEqual(walked(ROW, [4, 3, 1, 0, 2]), (1, 2))
        self.assertEqual(walked(ROW, [4, 3, 2, 0, 1]), (0, 1))

    def test_holders_that_are_gone_do_not_count(self):
        self.assertEqual(walked(ROW, [4, 0, 3, 1, 2]), (0, 1))
        parts = [cube(5, 0, 0, "+x"), cube(0, 0, 0, "+x"), cube(7, 0, 0, "+x")]
        self.assertEqual(walked(parts, [1, 0, 2]), (1, 0))
        self.assertEqual(walked(parts, [2, 1, 0]), (1, 0))
        self.assertEqual(walked(parts, [0, 1, 2]), (0, 2))
        self.assertIsNone(walked(parts, [2, 0, 1]))

    def test_a_ring_is_never_free(self):
        self.assertEqual(walked(PAIR, [0, 1]), (0, 1))
        self.assertEqual(walked(PAIR, [1, 0]), (1, 0))
        self.assertEqual(walked(FOUR, [3, 2, 1, 0]), (3, 0))
        self.assertEqual(walked(FOUR, [1, 0, 3, 2]), (1, 2))

    def test_a_told_order_is_free(self):
        for seed in range(200):
            parts = some_parts(seed)
            told = order_of(parts)
            if told[0] == "order":
                self.assertIsNone(walked(parts, told[1]))

    def test_as_the_holders_say(self):
        for seed in range(200):
            parts = some_parts(seed)
            holders = slow_held_by(parts)
            order = list(range(len(parts)))
            random.Random(seed).shuffle(order)
            found = [(i, min(set(holders[i]) & set(order[place:]))) for place, i in enumerate(order)
                     if set(holders[i]) & set(order[place:])]
            self.assertEqual(walked(parts, order), found[0] if found else None)


if __name__ == "__main__":
    unittest.main()
