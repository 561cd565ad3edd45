"""Desks: webs that are changed while they sound."""

from rodwebs.carrying import without
from rodwebs.checks import (
    check_count, check_joint, check_kind, check_length, check_rod, check_rod_length, check_strength, check_twist,
)
from rodwebs.errors import NoDeed, NothingToRedo, NothingToUndo
from rodwebs.fracs import Frac, fracs_of
from rodwebs.moves import merge, renumber, split, turn, twin
from rodwebs.slides import slide, unslide
from rodwebs.webs import Web

MOST_LIMIT = 100
MOST_WAIT = 50


class Desk:
    """A web and a state of it, on which deeds are performed: an object that changes."""

    def __init__(self, web, state=None):
        start = web.rest() if state is None else state
        check_length(start, web.cells)
        page = Page(web, start, (), (Frac(0), Frac(0), Frac(0)))
        # All that changes is in this one object, which never changes itself: so it can be kept and put back.
        self.standing = Standing(page, (), (), (), MOST_LIMIT)

    def __len__(self):
        return len(self.standing.names)

    def __iter__(self):
        return iter(self.standing.names)

    @property
    def energy_left(self):
        """The energy of the present state."""
        return self.standing.page.energy_inside()

    @property
    def tick_count(self):
        """The number of ticks that are not undone."""
        return len(self.standing.page.ticks)

    @property
    def limit(self):
        """The greatest number of deeds that can be undone."""
        return self.standing.most

    @limit.setter
    def limit(self, value):
        check_count(value, 0, MOST_LIMIT)
        self.standing = self.standing.with_limit(value)

    def set_limit(self, limit):
        """Assigns the limit."""
        self.limit = limit

    def web_now(self):
        """The present web."""
        return self.standing.page.web

    def state_now(self):
        """The present state."""
        return list(self.standing.page.state)

    def knock_lists(self):
        """The knocks of all ticks that are not undone."""
        return [list(knocks) for knocks, _ in self.standing.page.ticks]

    def heard_lists(self):
        """The heard numbers of all ticks that are not undone."""
        return [list(heard) for _, heard in self.standing.page.ticks]

    def book(self):
        """All energy knocked, the changes by deeds, all energy heard, the energy of the present state."""
        return (*self.standing.page.sums, self.energy_left)

    def knock(self, *knocks):
        """A tick; the list of the heard numbers."""
        page = self.standing.page.with_tick(knocks)
        self._do("knock", page)
        return list(page.ticks[-1][1])

    def wait(self, ticks):
        """So many ticks without knocks; the list of the heard lists."""
        check_count(ticks, 1, MOST_WAIT)
        page = self.standing.page
        for _ in range(ticks):
            page = page.with_tick([0] * page.web.ears)
        self._do("wait", page)
        return self.heard_lists()[-ticks:]

    def add_rod(self, joint, *, kind="level", length=1, strength=1, twist=1):
        """A rod from a joint to a new joint; the number of the rod."""
        web = self.web_now()
        check_joint(joint, len(web.joints))
        check_kind(kind)
        check_rod_length(length)
        check_strength(strength)
        check_twist(twist)
        rod = (joint, len(web.joints), length, strength, twist)
        new = Web([*web.joints, kind], [*web.rods, rod], web.ear_list)
        self._change("add_rod", new, self.state_now() + [0] * (2 * length))
        return len(web.rods)

    def take_off(self, rod):
        """A rod is left out, and what is on it."""
        web = self.web_now()
        check_rod(rod, len(web.rods))
        first = web.first_cells[rod]
        state = self.state_now()
        new = Web(web.joints, without(web.rods, rod), web.ear_list)
        self._change("take_off", new, state[:first] + state[first + 2 * web.rods[rod][2]:])

    def retune(self, rod, strength):
        """A rod gets another strength."""
        web = self.web_now()
        check_rod(rod, len(web.rods))
        check_strength(strength)
        rods = list(web.rods)
        start, end, length, _, twist = rods[rod]
        rods[rod] = (start, end, length, strength, twist)
        self._change("retune", Web(web.joints, rods, web.ear_list), self.state_now())

    def set_kind(self, joint, kind):
        """A joint gets another kind."""
        web = self.web_now()
        check_joint(joint, len(web.joints))
        check_kind(kind)
        joints = list(web.joints)
        joints[joint] = kind
        self._change("set_kind", Web(joints, web.rods, web.ear_list), self.state_now())

    def move(self, name, *arguments):
        """The unheard move of this name; its Lead."""
        lead = _lead_of_move(name, self.web_now(), arguments)
        self._change("move", lead.second, lead(self.state_now()))
        return lead

    def undo(self):
        """The last deed that can be undone is undone; its name."""
        if not self.standing.names:
            raise NothingToUndo()
        self.standing = self.standing.after_undo()
        return self.standing.later[-1][0]

    def redo(self):
        """The last deed that was undone is done again; its name."""
        if not self.standing.later:
            raise NothingToRedo()
        name = self.standing.later[-1][0]
        self.standing = self.standing.after_redo()
        return name

    def trial(self):
        """A context manager: when its with statement ends, the desk is as it was before."""
        return Trial(self)

    def _change(self, name, web, state):
        self._do(name, self.standing.page.with_web(web, state))

    def _do(self, name, page):
        self.standing = self.standing.after_deed(name, page)


class Trial:
    """One with statement whose deeds are all taken back when it ends."""

    def __init__(self, desk):
        self.desk = desk
        self.kept = None

    def __enter__(self):
        self.kept = self.desk.standing
        return self.desk

    def __exit__(self, kind, value, trace):
        self.desk.standing = self.kept


class Page:
    """A web and its state, with the histories and the sums of the book up to here; it never changes."""

    def __init__(self, web, state, ticks, sums):
        self.web = web
        self.state = tuple(fracs_of(state))
        # For each tick the tuple of the knocks and that of the heard numbers.
        self.ticks = ticks
        # All energy knocked, the changes by deeds, all energy heard.
        self.sums = sums

    def energy_inside(self):
        """The energy of the state."""
        return self.web.energy(self.state)

    def with_tick(self, knocks):
        """The page behind one more tick."""
        new, heard = self.web.tick(self.state, knocks)
        inward, change, outward = self.sums
        sums = (inward + self.web.ear_energy(knocks), change, outward + self.web.ear_energy(heard))
        return Page(self.web, new, (*self.ticks, (tuple(fracs_of(knocks)), tuple(heard))), sums)

    def with_web(self, web, state):
        """The page behind a deed that leads to this web and this state."""
        inward, change, outward = self.sums
        more = web.energy(state) - self.energy_inside()
        return Page(web, state, self.ticks, (inward, change + more, outward))


class Standing:
    """All that a desk is at a moment; it never changes."""

    def __init__(self, page, names, pages, later, most):
        self.page = page
        # The deeds that can be undone, the oldest first, and for each of them the page ahead of it.
        extra = max(0, len(names) - most)
        self.names = names[extra:]
        self.pages = pages[extra:]
        # The deeds that can be done again, the next one last: the name and the page behind it.
        self.later = later
        self.most = most

    def after_deed(self, name, page):
        """What the desk is behind a deed that leads to this page."""
        return Standing(page, (*self.names, name), (*self.pages, self.page), (), self.most)

    def after_undo(self):
        """What the desk is when the last deed is undone."""
        later = (*self.later, (self.names[-1], self.page))
        return Standing(self.pages[-1], self.names[:-1], self.pages[:-1], later, self.most)

    def after_redo(self):
        """What the desk is when the last deed that was undone is done again."""
        name, page = self.later[-1]
        return Standing(page, (*self.names, name), (*self.pages, self.page), self.later[:-1], self.most)

    def with_limit(self, most):
        """What the desk is with another limit."""
        return Standing(self.page, self.names, self.pages, self.later, most)


def _lead_of_move(name, web, arguments):
    if name == "turn":
        return turn(web, *arguments)
    if name == "renumber":
        return renumber(web, *arguments)
    if name == "split":
        return split(web, *arguments)
    if name == "merge":
        return merge(web, *arguments)
    if name == "twin":
        return twin(web, *arguments)
    if name == "slide":
        return slide(web, *arguments)
    if name == "unslide":
        return unslide(web, *arguments)
    raise NoDeed(name)
