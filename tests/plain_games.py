"""Games made from a seed, and their ranks worked out set by set, straight from the words."""

from gapwise.algebra import both, join, less
from gapwise.making import EMPTY, is_in, made, orbits
from gapwise.maps import back, image
from gapwise.points import merged_points
from gapwise.products import firsts, pairs
from gapwise.values import support
from tests.helping import ascending, some_points
from tests.relations import some_part


def game_points(game):
    return ascending([point for many in game for point in many[1]])


def some_game(chance, most_points=2):
    """A game as callers may pass it, small."""
    while True:
        points = some_points(chance, chance.choice(range(most_points + 1)))
        most = chance.choice([1, 1, 2])
        parts = [some_part(chance, most) for _ in range(chance.choice([2, 3, 4]))]
        places = made(points, [*parts, *chance.sample(["a", "b", "c", "d"], chance.choice([1, 2, 3]))])
        tops = orbits(places, points)
        if len(tops) > 15:
            continue
        rows = []
        for row in orbits(pairs(places, places), points):
            own = set(support(row[2])) <= set(points) | set(support(row[1]))
            if chance.random() < (0.35 if own else 0.2):
                rows.append(row)
        moves = made(points, rows[:80])
        mine = made(points, [top for top in tops if chance.random() < 0.6])
        goal = made(points, chance.sample(tops, chance.choice([0, 1, 1, 1, 2])) if len(tops) > 1 else tops)
        game = (places, mine, moves, goal)
        if len(moves[2]) <= 80:
            return game


def let_moves(game, points):
    """The moves that count with these points: those of his, and those of mine that tell no other point."""
    places, mine, moves, _ = game
    held = merged_points(game_points(game), points)
    rows = [row for row in orbits(moves, held) if not is_in(row[1], mine) or set(support(row[2])) <= set(held) | set(support(row[1]))]
    return made(held, rows)


def plain_ranks(game, moves):
    """The sets of the places of rank 0, 1, .., if these moves count."""
    places, mine, _, goal = game
    sets, left = [], less(places, goal)
    newest = goal
    his = less(both(places, firsts(moves)), mine) if moves != EMPTY else EMPTY
    while newest != EMPTY:
        sets.append(newest)
        reaching = image(back(moves), newest)
        # Those of his from which no move leads to a place without a rank.
        driven = less(his, image(back(moves), left))
        newest = both(left, join(both(reaching, mine), driven))
        left = less(left, newest)
    return sets, left
