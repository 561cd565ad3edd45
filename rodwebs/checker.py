"""Papers that are looked at by playing their players."""

from rodwebs.fracs import Frac, dot
from rodwebs.papers import (
    Alike, Begins, Explained, Ghost, Hushed, Louder, Steered, Told, Unexplained, Unhushed, Unlike,
)
from rodwebs.powers import convolved


def accepts(paper):
    """Whether a paper holds."""
    # A Lead was looked at when it was made.
    if isinstance(paper, Alike):
        return True
    if isinstance(paper, Unlike):
        return _differs(paper)
    if isinstance(paper, Begins):
        return tuple(_echo(paper.pile, len(paper.numbers), 0, 0)) == paper.numbers
    if isinstance(paper, Louder):
        return _is_louder(paper.numbers, paper.knocks)
    if isinstance(paper, Told):
        return _measure_told(paper.player, paper.ears, paper.weights) == list(paper.measure)
    if isinstance(paper, Ghost):
        return _is_ghost(paper)
    if isinstance(paper, Steered):
        return _played(paper.player, paper.player.rest(), paper.knocks)[0] == list(paper.wish)
    if isinstance(paper, Hushed):
        return _played(paper.player, paper.state, paper.knocks)[0] == paper.player.rest()
    if isinstance(paper, Unhushed):
        left, _ = _played(paper.player, paper.state, _silence(paper.player, paper.ticks))
        return _is_bar(paper.player, paper.bar, paper.ticks, left)
    if isinstance(paper, Explained):
        _, heard = _played(paper.player, paper.state, paper.knocks)
        return heard == [list(numbers) for numbers in paper.heard]
    if isinstance(paper, Unexplained):
        return _is_unexplained(paper)
    return _is_bar(paper.player, paper.bar, paper.ticks, paper.wish)


def _differs(paper):
    if paper.one.strengths != paper.other.strengths:
        return False
    first = _echo(paper.one, paper.at + 1, paper.heard, paper.knocked)
    return first[-1] != _echo(paper.other, paper.at + 1, paper.heard, paper.knocked)[-1]


def _is_louder(numbers, knocks):
    if len(numbers) != len(knocks):
        return False
    heard = convolved(numbers, knocks, len(knocks))
    return dot(heard, heard) > dot(knocks, knocks)


def _is_ghost(paper):
    # What is unheard for as many ticks as there are cells is never heard.
    ticks = min(int(paper.ticks), int(paper.player.cells))
    _, heard = _played(paper.player, paper.state, _silence(paper.player, ticks))
    if any([numbers[ear] != 0 for numbers in heard for ear in paper.ears]):
        return False
    return dot(paper.measure, paper.state) != 0


def _is_bar(player, bar, ticks, wish):
    """Whether the product of the bar is 0 with all that can be reached in so many ticks, and not with the wish."""
    if player.product(bar, wish) == 0:
        return False
    for ear in range(player.ears):
        state, _ = _played(player, player.rest(), [_single(player, ear)])
        # More ticks than there are cells reach no more.
        for _ in range(min(int(ticks), int(player.cells))):
            if player.product(bar, state) != 0:
                return False
            state, _ = _played(player, state, _silence(player, 1))
    return True


def _is_unexplained(paper):
    player = paper.player
    if any([number != 0 for number in _measure_told(player, tuple(range(player.ears)), paper.weights)]):
        return False
    _, sounds = _played(player, player.rest(), paper.knocks)
    total = Frac(0)
    for weights, heard, known in zip(paper.weights, paper.heard, sounds):
        total = total + dot(weights, heard) - dot(weights, known)
    return total != 0


def _measure_told(player, ears, weights):
    """The measure that is the sum of weight times heard number when the player is played alone."""
    a, _, c, _ = player.tick_tables()
    onward = a.transposed()
    total = player.rest()
    # A measure of what is left behind a tick is one of what was there before; so each tick is played once only.
    for numbers in weights[::-1]:
        total = onward(total)
        for ear, weight in zip(ears, numbers):
            total = [number + weight * heard for number, heard in zip(total, c.rows[ear])]
    return total


def _echo(player, count, heard, knocked):
    """The first so many echoes (heard, knocked)."""
    knocks = [_single(player, knocked)] + _silence(player, count)
    _, told = _played(player, player.rest(), knocks[:count])
    return [numbers[heard] for numbers in told]


def _single(player, ear):
    return [1 if other == ear else 0 for other in range(player.ears)]


def _silence(player, ticks):
    return [[0] * player.ears] * ticks


def _played(player, state, knocks):
    """The last state, and the list of what is heard in each tick."""
    now = list(state)
    told = []
    for numbers in knocks:
        now, heard = player.tick(now, numbers)
        told.append(heard)
    return now, told
