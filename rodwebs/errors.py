"""The errors of the program: each keeps what it is raised with as attributes."""


class WebError(ValueError):
    """The base class of all errors of the program."""


class DivisionByZero(WebError):
    """Something was to be divided by zero."""


class BadText(WebError):
    """A text is not the written form of what was to be read."""

    def __init__(self, text):
        self.text = text


class BadCount(WebError):
    """A count or a size is out of its range."""

    def __init__(self, count):
        self.count = count


class BadSizes(WebError):
    """A length does not fit: the one that was passed and the one that fits."""

    def __init__(self, given, wanted):
        self.given = given
        self.wanted = wanted


class BadPlace(WebError):
    """There is no such place."""

    def __init__(self, place):
        self.place = place


class TooLarge(WebError):
    """Something would become too large."""

    def __init__(self, size):
        self.size = size


class Mismatch(WebError):
    """Two things do not fit together."""


class Hidden(WebError):
    """A table takes these numbers, not all 0, to zeros, so it has no inverse."""

    def __init__(self, numbers):
        self.numbers = numbers


class Barred(WebError):
    """With these weights the rows of the equations contradict each other."""

    def __init__(self, weights):
        self.weights = weights


class BadForm(WebError):
    """At these numbers, not all 0, a form is not above 0."""

    def __init__(self, numbers):
        self.numbers = numbers


class BadKind(WebError):
    """There is no such kind of joint."""

    def __init__(self, kind):
        self.kind = kind


class BadStrength(WebError):
    """A strength is not above 0."""

    def __init__(self, strength):
        self.strength = strength


class BadLength(WebError):
    """A rod cannot have this length."""

    def __init__(self, length):
        self.length = length


class BadTwist(WebError):
    """A twist is neither 1 nor -1."""

    def __init__(self, twist):
        self.twist = twist


class BadOrder(WebError):
    """A list is not the order that was asked for."""


class BadLink(WebError):
    """The link at this index cannot tie its ears."""

    def __init__(self, index):
        self.index = index


class NoJoint(WebError):
    """There is no such joint."""

    def __init__(self, joint):
        self.joint = joint


class NoRod(WebError):
    """There is no such rod."""

    def __init__(self, rod):
        self.rod = rod


class NoEar(WebError):
    """There is no such ear."""

    def __init__(self, ear):
        self.ear = ear


class NotLevel(WebError):
    """A web is not level."""


class NotAWeb(WebError):
    """A player is not a Web."""


class NoMerge(WebError):
    """The rods at this joint cannot be merged."""

    def __init__(self, joint):
        self.joint = joint


class NoTwin(WebError):
    """These rods do not run side by side."""

    def __init__(self, first, second):
        self.first = first
        self.second = second


class NoSlide(WebError):
    """This stub cannot slide along this rod."""

    def __init__(self, stub, rod):
        self.stub = stub
        self.rod = rod


class Full(WebError):
    """There is no room for more ticks."""


class NothingToUndo(WebError):
    """Nothing can be undone."""


class NothingToRedo(WebError):
    """Nothing can be done again."""


class Unkept(WebError):
    """The tick from this state with these knocks does not keep the energy."""

    def __init__(self, state, knocks):
        self.state = state
        self.knocks = knocks


class NotAlong(WebError):
    """A table does not go along with the tick from this state with these knocks."""

    def __init__(self, state, knocks):
        self.state = state
        self.knocks = knocks


class TooFew(WebError):
    """So many tables are not enough."""

    def __init__(self, count):
        self.count = count


class Loud(WebError):
    """From this index on more would be heard than was knocked."""

    def __init__(self, index):
        self.index = index


class NoEcho(WebError):
    """Up to this index the numbers do not begin echoes."""

    def __init__(self, index):
        self.index = index


class BadPane(WebError):
    """The pane at this index is not between -1 and 1."""

    def __init__(self, index):
        self.index = index


class BadEnd(WebError):
    """An end is neither 1 nor -1."""

    def __init__(self, end):
        self.end = end


class BadBottom(WebError):
    """The constant of a bottom is not 1."""


class NoAnswer(WebError):
    """There is no such answer or resistance."""


class Endless(WebError):
    """A sum without end has no bound."""


class Unalike(WebError):
    """The echoes of two players differ at this tick, in this entry."""

    def __init__(self, at, heard, knocked):
        self.at = at
        self.heard = heard
        self.knocked = knocked


class BadDiscount(WebError):
    """A discount is not between -1 and 1."""

    def __init__(self, value):
        self.value = value


class NoDeed(WebError):
    """There is no deed of this name."""

    def __init__(self, name):
        self.name = name


class Stopped(WebError):
    """The deed at this index could not be done."""

    def __init__(self, at):
        self.at = at
