"""Evening: targets, moves and the writes of moves."""

from gapshelf.shelves import done


def targets(many, size):
    return [number * size // many for number in range(many)]


def moves_of(places, aims):
    pairs = list(zip(places, aims))
    # The foremost first on each way, so that no thing is moved onto or past one that is still to go.
    farther_on = [pair for pair in reversed(pairs) if pair[1] > pair[0]]
    nearer = [pair for pair in pairs if pair[1] < pair[0]]
    return farther_on + nearer


def writes_of(shelf, moves):
    # What lies at a place is asked when its move comes: an earlier move may have laid it there.
    lying = shelf
    writes = []
    for place, target in moves:
        two = [(target, lying[place]), (place, ())]
        lying = done(lying, two)
        writes.extend(two)
    return writes
