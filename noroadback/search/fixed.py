"""Tight roads that are led to themselves, and short rings of what rows are led to. Nothing is checked here.

Words are the tight roads of a web with one point, and a turner leads them as a stand leads roads.
"""

from noroadback.base.rows import common_end, opposite, ring_of
from noroadback.base.sides import met, row_of, text_of, told_sides
from noroadback.base.words import entries_of
from noroadback.webs.ties import begin_of, end_of


def ties_behind(ties, road):
    """The ascending list of the directed ties that can stand behind a tight road."""
    entries = entries_of(len(ties))
    if road == ():
        return entries
    return [tie for tie in entries if begin_of(ties, tie) == end_of(ties, road[-1]) and tie != -road[-1]]


def tight_roads(ties, length):
    """The ascending list of the tight roads with so many ties."""
    roads = [()]
    for _ in range(length):
        roads = [road + (tie,) for road in roads for tie in ties_behind(ties, road)]
    return roads


def tight_road_number(ties, length):
    """The number of the tight roads with so many ties, from one on."""
    following = {tie: ties_behind(ties, (tie,)) for tie in entries_of(len(ties))}
    # So many roads of one length more begin with each tie as are there of what can stand behind it.
    numbers = {tie: 1 for tie in following}
    for _ in range(length - 1):
        numbers = {tie: sum([numbers[entry] for entry in found]) for tie, found in following.items()}
    return sum(list(numbers.values()))


def moved_by(sides, road):
    """The text of the contrary of a road and of what it is led to, behind one another."""
    return met((text_of(opposite(road)), text_of(road)), told_sides(sides, road, None))[0]


def staying_of(ties, sides, length):
    """The ascending list of the tight roads with so many ties that are led to themselves by the images with some sides.

    A road u v stays exactly if what leads u to its image is what leads the contrary of v to its own. So halves of
    roads are all that is led.
    """
    halves = {}
    for second in tight_roads(ties, length // 2):
        halves.setdefault(moved_by(sides, opposite(second)), []).append(second)
    found = []
    for first in tight_roads(ties, length - length // 2):
        following = ties_behind(ties, first)
        for second in halves.get(moved_by(sides, first), []):
            if second == () or second[0] in following:
                found.append(first + second)
    return found


def led_ring(sides, row, most):
    """The ring of what a row is led to, None if it has more entries than the most."""
    told, back = told_sides(sides, row, None)
    struck = common_end(told, back)
    if len(told) - 2 * struck > most:
        return None
    return ring_of(row_of(told[struck:len(told) - struck]))
