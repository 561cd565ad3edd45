"""Players linked at their ears."""

from rodwebs.checks import check_count, check_length, check_size
from rodwebs.cores import MOST_CELLS, MOST_EARS
from rodwebs.errors import BadPlace, Mismatch
from rodwebs.fracs import Frac, dot, fracs_of
from rodwebs.joins import free_ears, told_links
from rodwebs.leads import Lead
from rodwebs.players import Player
from rodwebs.tables import Table, blocks

MOST_PLAYERS = 32


class Linked(Player):
    """A player that consists of players and of links between their ears."""

    def __init__(self, players, links):
        told = told_links(players, links)
        inside = sum([_player_count(player) for player in players])
        check_size(inside, MOST_PLAYERS)
        cells = sum([player.cells for player in players]) + sum([2 * length for _, _, length, _ in told])
        check_size(cells, MOST_CELLS)
        strengths = [strength for player in players for strength in player.strengths]
        free = free_ears(len(strengths), told)
        check_count(len(free), 0, MOST_EARS)
        Player.__init__(self, cells, [strengths[ear] for ear in free])
        self.players = tuple(players)
        self.links = tuple(told)
        self.player_count = inside
        self.free_list = tuple(free)
        self.all_strengths = tuple(strengths)

    def tick(self, state, knocks):
        """The new state and the heard numbers of one tick."""
        states, lines = self.parts(state)
        check_length(knocks, self.ears)
        tied = []
        for (ear, other, _, twist), (forth, backs) in zip(self.links, lines):
            tied.extend([(ear, twist * backs[-1]), (other, twist * forth[-1])])
        new = []
        heard = []
        for player, own, numbers in zip(self.players, states, self._by_players(knocks, tied)):
            cells, told = player.tick(own, numbers)
            new.extend(cells)
            heard.extend(told)
        for (ear, other, _, _), (forth, backs) in zip(self.links, lines):
            new.extend([heard[ear]] + forth[:-1] + [heard[other]] + backs[:-1])
        return new, [heard[ear] for ear in self.free_list]

    def back(self, state, heard):
        """The old state and the knocks of the tick that leads to this state and makes these numbers heard."""
        states, lines = self.parts(state)
        check_length(heard, self.ears)
        tied = []
        for (ear, other, _, _), (forth, backs) in zip(self.links, lines):
            tied.extend([(ear, forth[0]), (other, backs[0])])
        old = []
        knocks = []
        for player, own, numbers in zip(self.players, states, self._by_players(heard, tied)):
            cells, given = player.back(own, numbers)
            old.extend(cells)
            knocks.extend(given)
        for (ear, other, _, twist), (forth, backs) in zip(self.links, lines):
            old.extend(forth[1:] + [twist * knocks[other]] + backs[1:] + [twist * knocks[ear]])
        return old, [knocks[ear] for ear in self.free_list]

    def product(self, first, second):
        """The product of two states."""
        states, lines = self.parts(first)
        others, other_lines = self.parts(second)
        total = Frac(0)
        for player, own, other in zip(self.players, states, others):
            total = total + player.product(own, other)
        for (ear, _, _, _), (forth, backs), (beside, below) in zip(self.links, lines, other_lines):
            total = total + self.all_strengths[ear] * (dot(forth, beside) + dot(backs, below))
        return total

    def parts(self, state):
        """The list of the states of the players, and the list of the pairs (forth, backs) of the links."""
        check_length(state, self.cells)
        sizes = [player.cells for player in self.players]
        for _, _, length, _ in self.links:
            sizes = sizes + [length, length]
        pieces = _pieces(fracs_of(state), sizes)
        count = len(self.players)
        return pieces[:count], list(zip(pieces[count::2], pieces[count + 1::2]))

    def exchanged(self, index, lead):
        """The Lead to the player in which the player at this index is exchanged for the second one of a lead."""
        if not 0 <= index < len(self.players):
            raise BadPlace(index)
        old = self.players[index]
        if lead.first.strengths != old.strengths or lead.first.cells != old.cells:
            raise Mismatch()
        players = list(self.players)
        players[index] = lead.second
        new = Linked(players, self.links)
        ahead = sum([player.cells for player in self.players[:index]])
        table = blocks(Table.unit(ahead), lead.table)
        return Lead(self, new, blocks(table, Table.unit(self.cells - ahead - old.cells)))

    def _by_players(self, numbers, tied):
        """For each player the numbers of its ears: those of the free ears, and pairs (ear, number) of the tied ones."""
        known = dict(list(zip(self.free_list, numbers)) + tied)
        of_all = [known[ear] for ear in range(len(self.all_strengths))]
        return _pieces(of_all, [player.ears for player in self.players])


def _player_count(player):
    """The number of players that a player is: itself and all inside."""
    return 1 + player.player_count if isinstance(player, Linked) else 1


def _pieces(numbers, sizes):
    """A list cut into pieces of these sizes."""
    out = []
    first = 0
    for size in sizes:
        out.append(numbers[first:first + size])
        first = first + size
    return out
