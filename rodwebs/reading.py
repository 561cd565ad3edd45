"""The texts of webs."""

from rodwebs.errors import BadText, WebError
from rodwebs.fracs import Frac
from rodwebs.webs import Web


def format_web(web):
    """The text of a web."""
    lines = [" ".join(["joints", *web.joints])]
    for start, end, length, strength, twist in web.rods:
        twisted = " twisted" if twist == -1 else ""
        lines.append(f"rod {start} {end} {length} {strength}{twisted}")
    for joint, strength in web.ear_list:
        lines.append(f"ear {joint} {strength}")
    return "\n".join(lines)


def parse_web(text):
    """The web whose text it is."""
    try:
        web = _web_told(text)
        written = format_web(web)
    except WebError:
        raise BadText(text) from None
    # A web has one text only: so other orders of lines, other spaces and other forms of integers are refused here.
    if written != text:
        raise BadText(text)
    return web


def _web_told(text):
    lines = [line.split(" ") for line in text.split("\n")]
    rods = [_rod_told(words) for words in lines[1:] if words[0] == "rod"]
    ears = [_ear_told(words) for words in lines[1:] if words[0] != "rod"]
    return Web(lines[0][1:], rods, ears)


def _rod_told(words):
    if len(words) not in (5, 6):
        raise BadText(" ".join(words))
    start, end, length = [Frac.read(word).num for word in words[1:4]]
    return (start, end, length, Frac.read(words[4]), 1 if len(words) == 5 else -1)


def _ear_told(words):
    if len(words) != 3:
        raise BadText(" ".join(words))
    return (Frac.read(words[1]).num, Frac.read(words[2]))
