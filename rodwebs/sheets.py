"""Webs of several sheets, whose rods lead from sheet to sheet."""

from rodwebs.checks import check_count, check_length, check_order
from rodwebs.shapes import side_by_side
from rodwebs.webs import Web

MOST_SHEETS = 4


def sheets(web, count, shuffles):
    """So many copies of a web; a rod that starts on a sheet ends on the sheet that its shuffle tells."""
    check_count(count, 1, MOST_SHEETS)
    copies = [web] * count
    apart = side_by_side(*copies)
    check_length(shuffles, len(web.rods))
    for shuffle in shuffles:
        check_order(shuffle, count)
    rods = []
    for sheet in range(count):
        for (start, end, length, strength, twist), shuffle in zip(web.rods, shuffles):
            first = sheet * len(web.joints)
            last = shuffle[sheet] * len(web.joints)
            rods.append((first + start, last + end, length, strength, twist))
    return Web(apart.joints, rods, apart.ear_list)
