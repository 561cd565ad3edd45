"""Papers: each says that something holds for a player, and bears what shows it."""

from rodwebs.fracs import fracs_of


class Paper:
    """The base class of all papers; only its heirs are made."""


class Alike(Paper):
    """The lead goes along with every tick from its first to its second player."""

    YES = True

    def __init__(self, lead):
        self.lead = lead


class Unlike(Paper):
    """The echo (heard, knocked) at this tick differs between two players that agree."""

    YES = False

    def __init__(self, one, other, at, heard, knocked):
        self.one = one
        self.other = other
        self.at = at
        self.heard = heard
        self.knocked = knocked


class Begins(Paper):
    """The pile has these numbers as its first echoes."""

    YES = True

    def __init__(self, numbers, pile):
        self.numbers = _number_tuple(numbers)
        self.pile = pile


class Louder(Paper):
    """With the numbers as echoes, these knocks make more energy heard than was knocked."""

    YES = False

    def __init__(self, numbers, knocks):
        self.numbers = _number_tuple(numbers)
        self.knocks = _number_tuple(knocks)


class Told(Paper):
    """The value of the measure is always the sum of weight times number heard by these ears."""

    YES = True

    def __init__(self, player, measure, ears, weights):
        self.player = player
        self.measure = _number_tuple(measure)
        self.ears = tuple(ears)
        self.weights = _number_tuples(weights)


class Ghost(Paper):
    """The state is unheard by these ears for so many ticks, and the value of the measure at it is not 0."""

    YES = False

    def __init__(self, player, measure, ears, ticks, state):
        self.player = player
        self.measure = _number_tuple(measure)
        self.ears = tuple(ears)
        self.ticks = ticks
        self.state = _number_tuple(state)


class Steered(Paper):
    """The knocks bring the player from rest to the wish."""

    YES = True

    def __init__(self, player, wish, knocks):
        self.player = player
        self.wish = _number_tuple(wish)
        self.knocks = _number_tuples(knocks)


class Unreached(Paper):
    """The product of the bar with all that can be reached in so many ticks is 0, but not with the wish."""

    YES = False

    def __init__(self, player, wish, ticks, bar):
        self.player = player
        self.wish = _number_tuple(wish)
        self.ticks = ticks
        self.bar = _number_tuple(bar)


class Hushed(Paper):
    """The knocks bring the player from this state to rest."""

    YES = True

    def __init__(self, player, state, knocks):
        self.player = player
        self.state = _number_tuple(state)
        self.knocks = _number_tuples(knocks)


class Unhushed(Paper):
    """The product of the bar with all that can be reached in so many ticks is 0, but not with what the state becomes.
    """

    YES = False

    def __init__(self, player, state, ticks, bar):
        self.player = player
        self.state = _number_tuple(state)
        self.ticks = ticks
        self.bar = _number_tuple(bar)


class Explained(Paper):
    """The player, played from this state with these knocks, hears just these numbers."""

    YES = True

    def __init__(self, player, heard, knocks, state):
        self.player = player
        self.heard = _number_tuples(heard)
        self.knocks = _number_tuples(knocks)
        self.state = _number_tuple(state)


class Unexplained(Paper):
    """No state explains what was heard, as these weights show."""

    YES = False

    def __init__(self, player, heard, knocks, weights):
        self.player = player
        self.heard = _number_tuples(heard)
        self.knocks = _number_tuples(knocks)
        self.weights = _number_tuples(weights)


def _number_tuple(numbers):
    return tuple(fracs_of(numbers))


def _number_tuples(lists):
    return tuple([_number_tuple(numbers) for numbers in lists])
