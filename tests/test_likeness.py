import unittest

from gapwise.likeness import alike_moves
from gapwise.making import EMPTY, LINE, made
from gapwise.placing import are_alike, moved, placed
from gapwise.points import merged_points
from gapwise.values import support
from tests.helping import seeded, some_points, some_value

ZERO, ONE, TWO, THREE = (0, 1), (1, 1), (2, 1), (3, 1)
ABOVE, OVER = ("set", (ZERO,), (ONE,)), ("set", (ONE,), (TWO,))


class AlikeMoves(unittest.TestCase):
    def test_the_one_move(self):
        told = alike_moves(("row", (5, 1), TWO), ("row", (9, 1), THREE))
        self.assertEqual(told, ((TWO, THREE), ((5, 1), (9, 1))))
        self.assertEqual([alike_moves(ZERO, (1, 3)), alike_moves(ABOVE, OVER)], [((ZERO, (1, 3)),), ((ZERO, ONE),)])
        self.assertEqual(alike_moves(("row", ONE, ONE), ("row", TWO, TWO)), ((ONE, TWO),))
        one, other = made((ZERO, ONE), [ZERO, ONE]), made((TWO, THREE), [TWO, THREE])
        self.assertEqual(alike_moves(one, other), ((ZERO, TWO), (ONE, THREE)))
        self.assertEqual(alike_moves(made((), [ABOVE]), made((), [OVER])), ())

    def test_nothing_to_move(self):
        self.assertEqual([alike_moves("a", "a"), alike_moves(LINE, LINE), alike_moves(EMPTY, EMPTY)], [(), (), ()])
        self.assertEqual(alike_moves(TWO, TWO), ((TWO, TWO),))
        self.assertEqual(alike_moves("a", "a", points=(ZERO, ONE)), ((ZERO, ZERO), (ONE, ONE)))

    def test_not_alike(self):
        for one, other in (("a", "b"), ("a", ZERO), (LINE, EMPTY), (("row", (5, 1), TWO), ("row", THREE, (9, 1))),
                           (("row", ZERO, ZERO), ("row", ZERO, ONE)), (ABOVE, ("set", (ONE,), (ZERO,))), (ZERO, ("row", ZERO))):
            self.assertIsNone(alike_moves(one, other))
            self.assertIsNone(alike_moves(other, one))

    def test_points_by_keyword(self):
        self.assertIsNone(alike_moves(TWO, (7, 1), points=(THREE,)))
        self.assertEqual(alike_moves(TWO, ONE, points=(THREE,)), ((TWO, ONE), (THREE, THREE)))
        self.assertIsNone(alike_moves(TWO, THREE, points=(TWO,)))
        self.assertIsNone(alike_moves(TWO, THREE, points=(THREE,)))
        self.assertEqual(alike_moves(TWO, TWO, points=(TWO,)), ((TWO, TWO),))
        self.assertEqual(alike_moves(TWO, THREE, points=()), ((TWO, THREE),))
        with self.assertRaises(TypeError):
            alike_moves(TWO, TWO, (TWO,))

    def test_points_kept_beside_points_led(self):
        one, other = ("row", ZERO, (1, 2), TWO), ("row", ZERO, (1, 4), (9, 1))
        self.assertEqual(alike_moves(one, other, points=(ZERO, ONE)),
                         ((ZERO, ZERO), ((1, 2), (1, 4)), (ONE, ONE), (TWO, (9, 1))))

    def test_it_makes_the_other_of_the_one(self):
        chance = seeded(51)
        alike = 0
        for _ in range(300):
            one, points = some_value(chance, 2), some_points(chance, chance.choice([0, 1, 2]))
            other = placed(one, some_points(chance, 2)) if chance.random() < 0.7 else some_value(chance, 2)
            move = alike_moves(one, other, points=points)
            self.assertEqual(move is not None, are_alike(points, one, other))
            if move is not None:
                alike += 1
                self.assertEqual(moved(one, move), other)
                self.assertEqual(tuple(old for old, _ in move), merged_points(support(one), points))
                self.assertTrue(all(new == old for old, new in move if old in points))
                news = tuple(new for _, new in move)
                self.assertEqual(merged_points((), news), news)
        self.assertGreater(alike, 100)


if __name__ == "__main__":
    unittest.main()
