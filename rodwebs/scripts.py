"""Lists of deeds that are done on a desk, all of them or none."""

from rodwebs.errors import NoDeed, Stopped, WebError

# What a rod is that is added without telling more: kind, length, strength and twist.
PLAIN_ROD = ("level", 1, 1, 1)


def perform(desk, deeds):
    """Does a list of deeds on a desk; the list of what they return."""
    before = desk.standing
    out = []
    for at, deed in enumerate(deeds):
        try:
            out.append(_done(desk, deed))
        except WebError as why:
            desk.standing = before
            raise Stopped(at) from why
    return out


def _done(desk, deed):
    """What a deed returns that is done now."""
    name, *arguments = deed
    if name == "knock":
        return desk.knock(*arguments)
    if name == "wait":
        return desk.wait(*arguments)
    if name == "add_rod":
        return _added(desk, arguments)
    if name == "take_off":
        return desk.take_off(*arguments)
    if name == "retune":
        return desk.retune(*arguments)
    if name == "set_kind":
        return desk.set_kind(*arguments)
    if name == "move":
        return desk.move(*arguments)
    if name == "undo":
        return desk.undo()
    if name == "redo":
        return desk.redo()
    raise NoDeed(name)


def _added(desk, arguments):
    joint, *told = arguments
    kind, length, strength, twist = [*told, *PLAIN_ROD[len(told):]]
    return desk.add_rod(joint, kind=kind, length=length, strength=strength, twist=twist)
