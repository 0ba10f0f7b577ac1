import unittest

from gapwise.algebra import both, is_within, join, less
from gapwise.errors import TooMany
from gapwise.making import EMPTY, LINE, is_in, made, orbits
from gapwise.maps import back, identity, image, then
from gapwise.placing import are_alike, moved
from gapwise.points import merged_points
from gapwise.products import firsts, pairs
from gapwise.reading import check_value
from gapwise.rings import heights, judge_heights, judge_odd, judge_ring, odd_ring, ring
from gapwise.rooms import both_ways
from gapwise.values import support, value_text
from gapwise.webs import closure, places
from tests.helping import ascending, seeded
from tests.relations import HALF, ONE, THREE, TWO, ZERO, only, some_part, some_values, some_web

LESS = made((), [("row", ZERO, ONE)])
UNLIKE = made((), [("row", ZERO, ONE), ("row", ONE, ZERO)])
DOWN = made((), [("row", ZERO, "a"), ("row", "a", "b")])
SAME = made((), [("row", ZERO, ZERO)])
LETTERS = "abcdefghijklmnopqrstuvwxyz"
NO_SETS = (ZERO, "a", ("row", "a"), ["set", (), ()], ("set", (ZERO,), ()), ("set", (), (ONE,)), ("set", (), []), ("set", ((True, 1),), ((True, 1), (2, 1))), None, 7, True)
NO_VALUES = ((), [ZERO], "a", ((2, 2),), (ZERO, [ONE, 1]), (ZERO, (1, True)), ("A",), (ZERO, ("row",)), (("set", (ZERO,), ()),), (("row", ("row", ("row", ("row", ("row", "a"))))),), None, {"a": 1})
NO_PAPERS = (None, 7, True, "ring", (), ("ring",), ("walk", (ZERO,)), ["ring", (ZERO,)], (["ring"], (ZERO,)), {"ring": (ZERO,)}, (None, LINE), (True, LINE), ("Ring", (ZERO,)))


def is_tied(web, v, w):
    return is_in(("row", v, w), web)


def is_joined(web, v, w):
    return is_tied(web, v, w) or is_tied(web, w, v)


def around(values):
    return list(zip(values, [*values[1:], values[0]]))


def ring_of(letters):
    return made((), [("row", one, other) for one, other in around(letters)])


def peeled(web):
    """The sets of places by the steps of their longest walks, as far as there are any, and the places left over."""
    left, sets = places(web), []
    while True:
        held = both(web, pairs(left, left)) if left != EMPTY else EMPTY
        newest = less(left, firsts(held)) if held != EMPTY else left
        if newest == EMPTY:
            return sets, left
        sets.append(newest)
        left = less(left, newest)


def small_web(chance):
    """A web of which the rows of any two places are few enough for pairs and then."""
    while True:
        web = some_web(chance)
        if web != EMPTY and len(orbits(pairs(places(web), places(web)), web[1])) <= 300:
            return web


def odd_closed(web):
    """Whether a walk of an odd number of steps, whichever way the ties lead, leads from a value to itself."""
    ways = both_ways(web)
    whole = newest = ways
    two = then(ways, ways)
    while newest != EMPTY:
        newest = less(then(newest, two), whole)
        whole = join(whole, newest)
    return both(whole, identity(places(web))) != EMPTY


class Rings(unittest.TestCase):
    def check_ring(self, web, paper):
        word, values = paper
        self.assertEqual(word, "ring")
        self.assertIs(type(values), tuple)
        texts = [value_text(value) for value in values]
        self.assertEqual(len(set(texts)), len(texts))
        for value in values:
            check_value(value)
        for one, other in around(values):
            self.assertTrue(is_tied(web, one, other))
        self.assertIsNone(judge_ring(web, paper))

    def test_known_ones(self):
        self.assertEqual([ring(LESS), ring(EMPTY), ring(DOWN)], [("none", LESS), ("none", EMPTY), ("none", closure(DOWN))])
        self.assertEqual(len(ring(SAME)[1]), 1)
        self.check_ring(SAME, ring(SAME))
        self.check_ring(UNLIKE, ring(UNLIKE))
        self.assertEqual(ring(made((), [("row", "a", "a")])), ("ring", ("a",)))
        for many in (2, 3, 7, 20):
            found = ring(ring_of(LETTERS[:many]))
            self.assertEqual(len(found[1]), many)
            self.check_ring(ring_of(LETTERS[:many]), found)

    def test_through_several_sorts_of_places(self):
        some = made((), [LINE])
        web = made((), [("row", ZERO, "a"), ("row", "a", some), ("row", some, ("row", ZERO, ONE)), ("row", ("row", ZERO, ONE), ONE)])
        found = ring(web)
        self.check_ring(web, found)
        self.assertEqual(len(found[1]), 4)
        # From each pair to the next one, whose first point is the pair's second: no way back without turning.
        on = made((), [("row", ("row", ZERO, ONE), ("row", ONE, TWO))])
        self.assertEqual(ring(on)[0], "none")
        turned = made((), [("row", ("row", ZERO, ONE), ("row", ONE, TWO)), ("row", ("row", ZERO, ONE), ("row", ONE, ZERO)), ("row", ("row", ONE, ZERO), ("row", ZERO, ONE))])
        self.check_ring(turned, ring(turned))
        third = made((), [("row", ("row", ZERO, ONE), ("row", ONE, TWO)), ("row", ("row", ZERO, ONE), ("row", ZERO, "a", ONE)), ("row", ("row", ZERO, "a", ONE), ("row", (-1, 1), ZERO))])
        self.check_ring(third, ring(third))
        around_zero = made((ZERO,), [("row", ONE, (-1, 1)), ("row", (-1, 1), "q"), ("row", "q", TWO)])
        self.check_ring(around_zero, ring(around_zero))

    def test_by_chance(self):
        chance, seen = seeded(171), []
        for _ in range(150):
            web = some_web(chance)
            found = ring(web)
            whole = closure(web)
            seen.append(found[0])
            if both(whole, identity(places(web))) == EMPTY:
                self.assertEqual(found, ("none", whole))
                self.assertIsNone(judge_ring(web, found))
            else:
                self.check_ring(web, found)
                self.assertEqual(judge_ring(web, ("none", whole))[0], "same")
                seen.append(len(found[1]))
        self.assertLessEqual({"none", "ring", 1, 2}, set(seen))
        self.assertGreater(seen.count("none"), 20)


class JudgeRing(unittest.TestCase):
    def test_forms(self):
        for value in (*NO_PAPERS, *[("ring", one) for one in NO_VALUES], *[("none", one) for one in NO_SETS], ("none", LINE), ("none", made((), [("row", "a", "b", "c")])),
                      ("none", made((), [("row", "a")])), ("none", made((), [("row", "a", "b"), "c"])), ("ring", (ZERO,), 1), ("heights", []), ("ring", LINE)):
            self.assertEqual(judge_ring(LESS, value), ("form",), value)

    def test_values(self):
        web = ring_of("abcd")
        self.assertIsNone(judge_ring(web, ("ring", ("c", "d", "a", "b"))))
        self.assertEqual(judge_ring(web, ("ring", ("a", "b", "c"))), ("tie", 2))
        self.assertEqual(judge_ring(web, ("ring", ("a", "c", "b", "d"))), ("tie", 0))
        self.assertEqual(judge_ring(web, ("ring", ("a", "b", "c", "d", "a"))), ("twice", 4))
        self.assertEqual(judge_ring(web, ("ring", ("a", "b", "d", "d", "a"))), ("twice", 3))
        self.assertEqual(judge_ring(web, ("ring", ("a", "z", "b", "z", "b"))), ("twice", 3))
        self.assertEqual(judge_ring(web, ("ring", ("a",))), ("tie", 0))
        self.assertIsNone(judge_ring(SAME, ("ring", (HALF,))))
        self.assertEqual(judge_ring(SAME, ("ring", (HALF, HALF))), ("twice", 1))
        self.assertEqual(judge_ring(LESS, ("ring", (ZERO, ONE))), ("tie", 1))
        self.assertIsNone(judge_ring(UNLIKE, ("ring", (ZERO, THREE, HALF))))
        self.assertEqual(judge_ring(EMPTY, ("ring", ("row", "set"))), ("tie", 0))
        deep = ("row", ("row", ("row", ("row", "a"))))
        self.assertEqual(judge_ring(SAME, ("ring", (deep,))), ("tie", 0))

    def test_sets(self):
        self.assertIsNone(judge_ring(LESS, ("none", LESS)))
        self.assertIsNone(judge_ring(EMPTY, ("none", EMPTY)))
        self.assertIsNone(judge_ring(EMPTY, ("none", LESS)))
        self.assertIsNone(judge_ring(DOWN, ("none", join(closure(DOWN), made((), [("row", "b", "c"), ("row", "a", "c"), ("row", ZERO, "c")])))))
        word, v, w = judge_ring(LESS, ("none", made((ZERO,), [("row", ZERO, ONE)])))
        self.assertEqual([word, is_tied(LESS, v, w), v == ZERO], ["tie", True, False])
        word, x, y, z = judge_ring(DOWN, ("none", DOWN))
        self.assertEqual([word, y, z], ["open", "a", "b"])
        self.assertEqual(judge_ring(UNLIKE, ("none", UNLIKE))[0], "open")
        word, x, y, z = judge_ring(UNLIKE, ("none", UNLIKE))
        self.assertTrue(is_tied(UNLIKE, x, y) and is_tied(UNLIKE, y, z) and not is_tied(UNLIKE, x, z))
        whole = pairs(LINE, LINE)
        word, x = judge_ring(LESS, ("none", whole))
        self.assertEqual([word, is_tied(whole, x, x)], ["same", True])

    def test_bent_sets(self):
        chance, seen = seeded(172), {}
        for _ in range(250):
            web = some_web(chance)
            many = closure(web)
            x, y = some_values(chance, web, 2)
            other = made(merged_points(many[1], support(chance.choice([x, y, "a"]))), [("row", x, y)])
            try:
                many = chance.choice([join, less, less, both])(many, other) if chance.random() < 0.8 else many
                if chance.random() < 0.2:
                    many = join(many, back(many))
                told = judge_ring(web, ("none", many))
                beyond = less(then(many, many), many)
            except TooMany:
                continue
            if not is_within(web, many):
                self.assertEqual(told[0], "tie")
                self.assertTrue(is_tied(web, *told[1:]) and not is_tied(many, *told[1:]))
            elif beyond != EMPTY:
                self.assertEqual(told[0], "open")
                _, x, y, z = told
                self.assertTrue(is_tied(many, x, y) and is_tied(many, y, z) and not is_tied(many, x, z))
            elif any(row[1] == row[2] for row in many[2]):
                self.assertEqual(told[0], "same")
                self.assertTrue(is_tied(many, told[1], told[1]))
            else:
                self.assertIsNone(told)
            seen[told and told[0]] = seen.get(told and told[0], 0) + 1
        self.assertEqual(set(seen), {None, "tie", "open", "same"})
        self.assertGreater(min(seen.values()), 5)


class Heights(unittest.TestCase):
    def test_known_ones(self):
        self.assertEqual(heights(DOWN), ("heights", [made((), ["b"]), made((), ["a"]), LINE]))
        self.assertEqual(heights(EMPTY), ("heights", []))
        told = heights(made((ZERO,), [("row", ONE, (-1, 1)), ("row", ONE, ZERO), ("row", ZERO, "a")]))
        self.assertEqual(told, ("heights", [made((ZERO,), ["a", (-1, 1)]), only(ZERO), made((ZERO,), [ONE])]))
        for web in (LESS, UNLIKE, SAME, ring_of("abc"), join(DOWN, LESS)):
            word, walk = heights(web)
            self.assertEqual(word, "endless")
            self.assertIsNone(judge_heights(web, ("endless", walk)))
        skips = made((), [("row", a, b) for a in "abcdefg" for b in "abcdefg" if a < b])
        self.assertEqual(heights(skips), ("heights", [made((), [word]) for word in "gfedcba"]))

    def test_told_lists_are_new(self):
        first, second = heights(DOWN), heights(DOWN)
        self.assertIs(type(first[1]), list)
        self.assertIsNot(first[1], second[1])
        first[1].clear()
        self.assertEqual(len(second[1]), 3)

    def test_by_chance(self):
        chance, seen = seeded(173), []
        for _ in range(150):
            web = small_web(chance)
            sets, left = peeled(web)
            word, told = heights(web)
            seen.append((word, len(told)))
            if left == EMPTY:
                self.assertEqual((word, told), ("heights", sets))
                self.assertEqual(ring(web)[0], "none")
                self.assertIsNone(judge_heights(web, ("heights", tuple(told))))
            else:
                self.assertEqual(word, "endless")
                self.assertIs(type(told), tuple)
                self.assertGreater(len(told), 1)
                for one, other in zip(told, told[1:]):
                    self.assertTrue(is_tied(web, one, other))
                self.assertTrue(are_alike(web[1], told[0], told[-1]))
                self.assertEqual(judge_heights(web, ("heights", sets)), ("lacks", judge_heights(web, ("heights", sets))[1]))
            self.assertIsNone(judge_heights(web, (word, told)))
        self.assertLessEqual({("heights", 2), ("heights", 3), ("endless", 2), ("endless", 3)}, set(seen))


class JudgeHeights(unittest.TestCase):
    def test_forms(self):
        for value in (*NO_PAPERS, *[("endless", one) for one in NO_VALUES], *[("heights", [one]) for one in NO_SETS], *[("heights", (EMPTY, one)) for one in NO_SETS],
                      ("heights", LINE), ("heights", "a"), ("heights", {}), ("heights", None), ("heights", [], []), ("endless", ("a",)), ("endless", ["a", "a"]), ("ring", ("a",))):
            self.assertEqual(judge_heights(SAME, value), ("form",), value)

    def test_sets(self):
        low, middle, high = made((), ["b"]), made((), ["a"]), LINE
        right = [low, middle, high]
        self.assertIsNone(judge_heights(DOWN, ("heights", right)))
        self.assertIsNone(judge_heights(DOWN, ("heights", tuple(right))))
        self.assertIsNone(judge_heights(EMPTY, ("heights", [])))
        self.assertIsNone(judge_heights(EMPTY, ("heights", ())))
        self.assertEqual(judge_heights(EMPTY, ("heights", [EMPTY])), ("empty",))
        self.assertEqual(judge_heights(DOWN, ("heights", [low, high])), ("lacks", "a"))
        self.assertEqual(judge_heights(DOWN, ("heights", [low, middle, made((ZERO,), [ZERO, ONE])]))[0], "lacks")
        self.assertEqual(judge_heights(DOWN, ("heights", [low, join(middle, made((), ["c"])), high, high])), ("strange", 1, "c"))
        word, k, x = judge_heights(DOWN, ("heights", [low, middle, high, low]))
        self.assertEqual([word, k, x], ["strange", 3, "b"])
        self.assertEqual(judge_heights(DOWN, ("heights", [low, middle, join(high, middle)])), ("strange", 2, "a"))
        self.assertEqual(judge_heights(DOWN, ("heights", [*right, EMPTY])), ("empty",))
        self.assertEqual(judge_heights(DOWN, ("heights", [middle, low, high])), ("rises", "a", "b"))
        self.assertEqual(judge_heights(DOWN, ("heights", [join(low, middle), high])), ("rises", "a", "b"))
        self.assertEqual(judge_heights(DOWN, ("heights", [EMPTY, *right])), ("low", 1, "b"))
        self.assertEqual(judge_heights(DOWN, ("heights", [low, EMPTY, middle, high])), ("low", 2, "a"))
        self.assertEqual(judge_heights(DOWN, ("heights", [low, middle, EMPTY, high]))[:2], ("low", 3))
        cut, rest = made((ZERO,), [ONE]), made((ZERO,), [ZERO, (-1, 1)])
        self.assertEqual(judge_heights(DOWN, ("heights", [low, middle, cut, rest]))[:2], ("low", 3))
        self.assertEqual(judge_heights(LESS, ("heights", [LINE]))[0], "rises")
        self.assertEqual(judge_heights(LESS, ("heights", [cut, rest]))[0], "rises")

    def test_walks(self):
        self.assertIsNone(judge_heights(LESS, ("endless", (ZERO, HALF, ONE))))
        self.assertIsNone(judge_heights(SAME, ("endless", (ZERO, ZERO))))
        self.assertEqual(judge_heights(LESS, ("endless", (ZERO, ONE, HALF))), ("tie", 1))
        self.assertEqual(judge_heights(LESS, ("endless", (ZERO, ZERO))), ("tie", 0))
        self.assertEqual(judge_heights(DOWN, ("endless", (ZERO, "a", "b"))), ("unlike",))
        self.assertEqual(judge_heights(DOWN, ("endless", (ZERO, "b", "a"))), ("tie", 0))
        web = made((ZERO,), [("row", (-1, 1), ONE)])
        self.assertEqual(judge_heights(web, ("endless", ((-1, 1), ONE))), ("unlike",))
        self.assertEqual(judge_heights(EMPTY, ("endless", ("row", "set"))), ("tie", 0))

    def test_bent_sets(self):
        chance, seen = seeded(174), {}
        for _ in range(250):
            web = small_web(chance)
            sets, left = peeled(web)
            if left != EMPTY:
                sets.append(left)
            x, y = some_values(chance, web, 2)
            for _ in range(chance.choice([1, 1, 2])):
                at = chance.randrange(len(sets))
                draw = chance.random()
                if draw < 0.25:
                    sets[at] = join(sets[at], made(web[1], [x]))
                elif draw < 0.45:
                    other = chance.randrange(len(sets))
                    sets[at], sets[other] = sets[other], sets[at]
                elif draw < 0.6:
                    sets.insert(at, made((), []))
                elif draw < 0.7:
                    sets.append(EMPTY)
                elif draw < 0.85:
                    part = both(sets[at], made(merged_points(web[1], support(y)), [x, y]))
                    sets[at] = less(sets[at], part)
                    sets.insert(chance.choice([at, at + 1]), part)
                elif len(sets) > 1:
                    sets[at - 1] = join(sets[at - 1], sets.pop(at))
            told = judge_heights(web, ("heights", sets))
            self.check_told(web, sets, told)
            seen[told and told[0]] = seen.get(told and told[0], 0) + 1
        self.assertEqual(set(seen), {None, "lacks", "strange", "empty", "rises", "low"} - ({"lacks"} - set(seen)))
        self.assertGreater(min(seen.values()), 3)

    def check_told(self, web, sets, told):
        whole, earlier = EMPTY, []
        for many in sets:
            earlier.append(whole)
            whole = join(whole, many)
        lacking = less(places(web), whole)
        strange = [join(less(many, places(web)), both(many, ahead)) for many, ahead in zip(sets, earlier)]
        if lacking != EMPTY:
            self.assertEqual(told[0], "lacks")
            self.assertTrue(is_in(told[1], lacking))
        elif any(many != EMPTY for many in strange):
            word, k, x = told
            self.assertEqual([word, k], ["strange", [many != EMPTY for many in strange].index(True)])
            self.assertTrue(is_in(x, strange[k]))
        elif sets and sets[-1] == EMPTY:
            self.assertEqual(told, ("empty",))
        else:
            falls = EMPTY
            for many, ahead in zip(sets, earlier):
                falls = join(falls, both(web, pairs(many, ahead)))
            lows = [less(sets[k], image(back(web), sets[k - 1])) for k in range(1, len(sets))]
            if falls != web:
                self.assertEqual(told[0], "rises")
                self.assertTrue(is_tied(web, *told[1:]) and not is_tied(falls, *told[1:]))
            elif any(many != EMPTY for many in lows):
                word, k, x = told
                self.assertEqual([word, k], ["low", [many != EMPTY for many in lows].index(True) + 1])
                self.assertTrue(is_in(x, lows[k - 1]))
            else:
                self.assertIsNone(told)


class OddRings(unittest.TestCase):
    def check_odd(self, web, values):
        self.assertIs(type(values), tuple)
        self.assertEqual(len(values) % 2, 1)
        self.assertEqual(len({value_text(value) for value in values}), len(values))
        for one, other in around(values):
            self.assertTrue(is_joined(web, one, other))
        self.assertIsNone(judge_odd(web, ("ring", values)))

    def check_sides(self, web, many):
        check_value(many)
        self.assertLessEqual(set(many[1]), set(web[1]))
        self.assertTrue(is_within(many, places(web)))
        for row in orbits(web, many[1]):
            self.assertNotEqual(is_in(row[1], many), is_in(row[2], many))
        self.assertIsNone(judge_odd(web, ("sides", many)))

    def test_known_ones(self):
        self.assertEqual(odd_ring(EMPTY), ("sides", EMPTY))
        word, many = odd_ring(DOWN)
        self.assertEqual(word, "sides")
        self.assertIn(many, (made((), ["a"]), made((), [ZERO, "b"])))
        for web, most in ((LESS, 3), (SAME, 1), (ring_of("abc"), 3), (ring_of("abcdefg"), 7), (ring_of(LETTERS[:21]), 21)):
            word, values = odd_ring(web)
            self.assertEqual([word, len(values)], ["ring", most])
            self.check_odd(web, values)
        for web in (ring_of("abcd"), ring_of(LETTERS[:20])):
            word, many = odd_ring(web)
            self.assertEqual([word, len(many[2])], ["sides", len(web[2]) // 2])
            self.check_sides(web, many)
        # A tie from the one to the other side of 0 whose sides a map that does not keep 0 would exchange.
        web = made((ZERO,), [("row", (-1, 1), ONE)])
        self.assertIn(odd_ring(web), (("sides", made((ZERO,), [ONE])), ("sides", made((ZERO,), [(-1, 1)]))))

    def test_rooms_that_are_alike(self):
        # For each point a room of its own; all of them have the same sides.
        web = made((), [("row", ("row", "a", ZERO), ("row", "b", ZERO)), ("row", ("row", "c", ZERO), ("row", "b", ZERO))])
        word, many = odd_ring(web)
        self.assertEqual([word, many[1]], ["sides", ()])
        self.check_sides(web, many)

    def test_by_chance(self):
        chance, seen = seeded(175), {}
        for _ in range(150):
            web = small_web(chance)
            word, told = odd_ring(web)
            try:
                is_odd = odd_closed(web)
            except TooMany:
                is_odd = word == "ring"
            self.assertEqual(word == "ring", is_odd)
            if is_odd:
                self.check_odd(web, told)
            else:
                self.check_sides(web, told)
            key = len(told) if is_odd else "sides"
            seen[key] = seen.get(key, 0) + 1
        self.assertLessEqual({1, 3, "sides"}, set(seen))


class JudgeOdd(unittest.TestCase):
    def test_forms(self):
        for value in (*NO_PAPERS, *[("ring", one) for one in NO_VALUES], *[("sides", one) for one in NO_SETS], ("sides", ()), ("sides", [LINE]), ("ring", (ZERO,), ()), ("none", LESS)):
            self.assertEqual(judge_odd(LESS, value), ("form",), value)

    def test_values(self):
        web = made((), [("row", "a", "b"), ("row", "c", "b"), ("row", "a", "c"), ("row", "d", "d")])
        self.assertIsNone(judge_odd(web, ("ring", ("b", "a", "c"))))
        self.assertIsNone(judge_odd(web, ("ring", ("d",))))
        self.assertEqual(judge_odd(web, ("ring", ("a", "b"))), ("even",))
        self.assertEqual(judge_odd(web, ("ring", ("a", "a"))), ("even",))
        self.assertEqual(judge_odd(web, ("ring", ("a", "b", "a"))), ("twice", 2))
        self.assertEqual(judge_odd(web, ("ring", ("a", "z", "z"))), ("twice", 2))
        self.assertEqual(judge_odd(web, ("ring", ("a", "b", "d"))), ("tie", 1))
        self.assertEqual(judge_odd(web, ("ring", ("d", "a", "b"))), ("tie", 0))
        self.assertEqual(judge_odd(web, ("ring", ("a",))), ("tie", 0))
        self.assertEqual(judge_odd(ring_of("abcd"), ("ring", ("a", "b", "c"))), ("tie", 2))
        self.assertIsNone(judge_odd(LESS, ("ring", (TWO, ZERO, HALF, THREE, ONE))))

    def test_sides(self):
        web = ring_of("abcd")
        self.assertIsNone(judge_odd(web, ("sides", made((), ["a", "c"]))))
        self.assertIsNone(judge_odd(EMPTY, ("sides", EMPTY)))
        self.assertEqual(judge_odd(EMPTY, ("sides", LINE))[0], "strange")
        self.assertEqual(judge_odd(web, ("sides", made((), ["a", "b", "e"]))), ("strange", "e"))
        self.assertEqual(judge_odd(web, ("sides", made((), ["a", "b"]))), ("both", "a", "b"))
        word, v, w = judge_odd(web, ("sides", made((), ["a"])))
        self.assertEqual([word, is_tied(web, v, w), "a" in (v, w)], ["neither", True, False])
        self.assertEqual(judge_odd(SAME, ("sides", LINE))[0], "both")
        self.assertEqual(judge_odd(SAME, ("sides", EMPTY))[0], "neither")
        # Sides with points of their own: at each point the one or the other.
        rows = made((), [("row", ("row", "a", ZERO), ("row", "b", ZERO))])
        mixed = made((ZERO,), [("row", "a", ONE), ("row", "b", ZERO), ("row", "b", (-1, 1))])
        self.assertIsNone(judge_odd(rows, ("sides", mixed)))
        lacking = made((ZERO,), [("row", "a", ONE), ("row", "b", (-1, 1))])
        self.assertEqual(judge_odd(rows, ("sides", lacking)), ("neither", ("row", "a", ZERO), ("row", "b", ZERO)))
        doubled = join(mixed, only(("row", "a", ZERO)))
        self.assertEqual(judge_odd(rows, ("sides", doubled)), ("both", ("row", "a", ZERO), ("row", "b", ZERO)))

    def test_bent_sides(self):
        chance, seen = seeded(176), {}
        for _ in range(250):
            web = small_web(chance)
            word, told = odd_ring(web)
            many = told if word == "sides" else places(web)
            x, y = some_values(chance, web, 2)
            other = made(merged_points(many[1], support(x)), [chance.choice([x, y, some_part(chance, 2)])])
            if chance.random() < 0.8:
                many = chance.choice([join, less, both])(many, other)
            told = judge_odd(web, ("sides", many))
            strange = less(many, places(web))
            rows = orbits(web, many[1])
            if strange != EMPTY:
                self.assertEqual(told[0], "strange")
                self.assertTrue(is_in(told[1], strange))
            elif any(is_in(row[1], many) and is_in(row[2], many) for row in rows):
                self.assertEqual(told[0], "both")
                self.assertTrue(is_tied(web, *told[1:]) and is_in(told[1], many) and is_in(told[2], many))
            elif any(not is_in(row[1], many) and not is_in(row[2], many) for row in rows):
                self.assertEqual(told[0], "neither")
                self.assertTrue(is_tied(web, *told[1:]) and not is_in(told[1], many) and not is_in(told[2], many))
            else:
                self.assertIsNone(told)
            seen[told and told[0]] = seen.get(told and told[0], 0) + 1
        self.assertEqual(set(seen), {None, "strange", "both", "neither"})


class Greatest(unittest.TestCase):
    def test_long_rings(self):
        # Places with two points each: a ring must come back to its very points.
        steps = [("row", ("row", word, ZERO, ONE), ("row", other, ONE, TWO)) for word, other in zip("abcd", "bcda")]
        turns = [("row", ("row", "a", ZERO, ONE), ("row", "a", (-1, 1), ZERO))]
        for web in (made((), steps), made((), steps + turns)):
            found = ring(web)
            self.assertIsNone(judge_ring(web, found))
            word, told = heights(web)
            self.assertEqual(word, "endless")
            self.assertIsNone(judge_heights(web, (word, told)))
            self.assertIsNone(judge_odd(web, odd_ring(web)))
        line = made((), [("row", a + b, c + d) for (a, b), (c, d) in zip([(a, b) for a in "abc" for b in LETTERS[:8]], [(a, b) for a in "abc" for b in LETTERS[:8]][1:])])
        self.assertEqual(len(heights(line)[1]), 24)
        self.assertIsNone(judge_heights(line, heights(line)))
        self.assertIsNone(judge_ring(line, ring(line)))


class Moves(unittest.TestCase):
    def test_what_is_told_moves_with_the_points(self):
        chance = seeded(177)
        for _ in range(60):
            web = some_web(chance)
            olds = ascending(web[1])
            move = tuple((old, (2 * at + 5, 3)) for at, old in enumerate(olds))
            led = moved(web, move)
            for call, word in ((ring, "none"), (heights, "heights"), (odd_ring, "sides")):
                one, other = call(web), call(led)
                self.assertEqual(one[0], other[0])
                if word == one[0] == "heights":
                    self.assertEqual([moved(many, move) for many in one[1]], other[1])
                elif word == one[0] == "none":
                    self.assertEqual(moved(one[1], move), other[1])


if __name__ == "__main__":
    unittest.main()
