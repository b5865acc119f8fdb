"""Open roads whose images begin alike as far as can be. Nothing is checked here; no image turns back.

Two roads are told by a meeting (ahead, done, behind). The image of the road with the last tie `behind` is all in
common. That of the other road, with the last tie `ahead`, is so, too, but for what stands behind so many entries in the
image of this tie.
"""

from noroadback.webs.ties import beginnings_at, end_of, points_in


def ties_on(ties, far):
    """A dict from each directed tie to the list of those that continue it to an open road; `far` tells gates."""
    return {tie: [entry for entry in beginnings_at(ties, end_of(ties, tie)) if far[entry] != far[-tie]] for tie in far}


def common_begin(one, other):
    """How many first entries two texts have in common."""
    most = min(len(one), len(other))
    known = 0
    while known < most and one[known] == other[known]:
        known += 1
    return known


def met_behind(sides, meeting, tie):
    """What comes of a meeting when a tie is put behind the road that is behind.

    It is a tuple of the tie, of what is in common more, of the next meeting, None where the images part, and of whether
    the road that was behind is ahead now.
    """
    ahead, done, _ = meeting
    rest, side = sides[ahead][done:], sides[tie]
    common = common_begin(rest, side)
    if common == len(rest):
        return tie, common, (tie, common, ahead), True
    if common == len(side):
        return tie, common, (ahead, done + common, tie), False
    return tie, common, None, False


def best_of(told, choices):
    """The pair of the most that is in common more by some choices, and of the choice for it, None if nothing is."""
    most, best = 0, None
    for choice in choices:
        total = choice[1] + (0 if choice[2] is None else told[choice[2]][0])
        if total > most:
            most, best = total, choice
    return most, best


def tell_of(sides, following, told, start):
    """Tell, in a dict, what `best_of` is for a meeting, and for all meetings that come of it.

    No meeting comes of itself: it would let more and more be in common.
    """
    waiting = [start]
    while waiting:
        meeting = waiting[-1]
        choices = [met_behind(sides, meeting, tie) for tie in following[meeting[2]]]
        untold = [choice[2] for choice in choices if choice[2] is not None and choice[2] not in told]
        if untold == []:
            told[meeting] = best_of(told, choices)
            waiting.pop()
        waiting.extend(untold)


def roads_on(told, one, other, choice):
    """Two roads, begun with a tie each, that have the most in common behind the choice that was made first."""
    ahead, behind = [one], [other]
    while choice is not None:
        meeting = choice[2]
        if choice[3]:
            ahead, behind = behind, ahead
        choice = None if meeting is None else told[meeting][1]
        if choice is not None:
            behind.append(choice[0])
    return tuple(ahead), tuple(behind)


def longest_meeting(ties, sides, far):
    """The most that images of open roads with unlike first ties have in common, and two such roads from one point."""
    following = ties_on(ties, far)
    told = {}
    best = None
    for point in points_in(ties):
        found = beginnings_at(ties, point)
        for one, other in [(first, second) for first in found for second in found if first < second]:
            # At first all of the image of the one is ahead.
            choice = met_behind(sides, (one, 0, other), other)
            number = choice[1]
            if choice[2] is not None:
                tell_of(sides, following, told, choice[2])
                number = number + told[choice[2]][0]
            if best is None or number > best[0]:
                best = (number, one, other, choice)
    one_road, other_road = roads_on(told, best[1], best[2], best[3])
    return best[0], one_road, other_road
