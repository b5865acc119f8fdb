"""Steps by which a draft comes to one that never turns back, or that has a kept part. Nothing is checked here."""

from noroadback.rates.tables import compare_tables, counts_in
from noroadback.rates.firsts import firsts_of, steps_to_close, turn_led, turns_in
from noroadback.webs.drafts import (
    draft_folded, draft_halved, draft_joined, draft_pulled, draft_shrunk, image_of, is_passing,
)
from noroadback.webs.ties import beginnings_at, is_forest_in, points_in
from noroadback.webs.webs import MAX_TIES


def grown(images, chosen):
    """The ascending tuple of some ties, those of their images, those of the images of these, and so on."""
    known = {}
    waiting = list(chosen)
    while waiting:
        tie = waiting.pop()
        if tie not in known:
            known[tie] = True
            waiting.extend([abs(entry) for entry in images[tie - 1]])
    return tuple(sorted(list(known)))


def least_sets(images):
    """The ascending list of the different sets that grow of single ties, without that of all ties."""
    found = {grown(images, (tie,)): True for tie in range(1, len(images) + 1)}
    return sorted([chosen for chosen in found if len(chosen) < len(images)])


def kept_sets(ties, images):
    """The ascending list of the sets, grown of single ties, that are kept parts."""
    return [chosen for chosen in least_sets(images) if not is_forest_in(ties, chosen)]


def lessened(draft):
    """The draft with an end pulled in, or with a forest shrunk that is led into itself, None if there is neither."""
    ties, _, images = draft
    for point in points_in(ties):
        if len(beginnings_at(ties, point)) == 1:
            return draft_pulled(draft, point)
    for chosen in least_sets(images):
        if is_forest_in(ties, chosen):
            return draft_shrunk(draft, chosen)
    return None


def passed(draft):
    """The draft joined at a point with just two beginnings, None if there is no such point.

    Of both ways it is the one with the lesser rate, which is not above that of the draft.
    """
    ties = draft[0]
    for point in points_in(ties):
        if is_passing(ties, point):
            one, other = [abs(tie) for tie in beginnings_at(ties, point)]
            first, second = draft_joined(draft, point, one), draft_joined(draft, point, other)
            return first if compare_tables(counts_in(first[2]), counts_in(second[2])) <= 0 else second
    return None


def nearest_turn(images):
    """The tie and the place of the turn of an image that the fewest firsts close, None if all turns stay open."""
    firsts = firsts_of(images)
    best = None
    least = 0
    for tie, image in enumerate(images, start=1):
        for place, turn in enumerate(turns_in(image), start=1):
            steps = steps_to_close(firsts, turn)
            if steps is not None and (best is None or steps < least):
                best = (tie, place)
                least = steps
    return best


def last_turn(images, turn):
    """The turn that a turn is led to by firsts and that is closed by one more."""
    firsts = firsts_of(images)
    following = turn_led(firsts, turn)
    while following[0] != following[1]:
        turn = following
        following = turn_led(firsts, turn)
    return turn


def cut_beginning(draft, tie, many, told):
    """The draft in which a directed tie is halved behind so many entries of its image, if it has more ones.

    It stands in a pair with the tuple of the directed ties that begin as the told ones did.
    """
    size = len(image_of(draft, tie))
    if many == size:
        return draft, told
    cut = draft_halved(draft, abs(tie), many if tie > 0 else size - many)
    # The second half, gone back, begins where the tie that was halved did so, gone back.
    return cut, tuple([-len(cut[0]) if entry == -abs(tie) else entry for entry in told])


def folded_number(entry, one, other):
    """The number that a directed tie has when two other ones, or it and another one, have become one."""
    kept, gone = (one, other) if abs(one) < abs(other) else (other, one)
    if entry == gone:
        return kept
    if entry == -gone:
        return -kept
    if abs(entry) < abs(gone):
        return entry
    return entry - 1 if entry > 0 else entry + 1


def shortened(draft, tie, told):
    """The draft in which a directed tie is halved behind the first entry of its image, and the told ones, as above.

    If the image has one entry, this one is halved first. Where a draft hangs together and an image has a closed
    turn, the firsts, again and again, come to an image with more entries.
    """
    image = image_of(draft, tie)
    entries = (tie, *told)
    if len(image) == 1:
        draft, entries = shortened(draft, image[0], entries)
    draft, entries = cut_beginning(draft, entries[0], 1, entries)
    return draft, entries[1:]


def beginnings_folded(draft, turn, told):
    """The draft in which the beginnings of two directed ties that are led to one tie become one, and the told ones."""
    draft, entries = cut_beginning(draft, turn[0], 1, (*turn, *told))
    # The tie that both are led to can have been cut, so that the first beginning tells how long the second one is.
    draft, entries = cut_beginning(draft, entries[1], len(image_of(draft, entries[0])), entries)
    one, other, *left = entries
    return draft_folded(draft, one, other), tuple([folded_number(entry, one, other) for entry in left])


def folded_on(draft):
    """The draft folded at turns so that the rate, when ends are pulled in then, is less; None if no turn is closed.

    A tie is halved where its image has a closed turn. So the two halves begin, at the new point, a turn that is
    closed by one first more. Each fold of the last one of the turns to which it is led lets it be closed by one first
    less, until it is folded itself: then the new point is an end. What is folded is so short that no other fold
    takes the new point in.
    """
    told = nearest_turn(draft[2])
    if told is None:
        return None
    draft = draft_halved(draft, told[0], told[1])
    turn = (-told[0], len(draft[0]))
    draft, turn = shortened(draft, firsts_of(draft[2])[last_turn(draft[2], turn)[0]], turn)
    is_done = False
    while not is_done:
        last = last_turn(draft[2], turn)
        # Where an image has the turn, the fold makes it shorter, and the rate less.
        is_done = last == turn or any([(min(last), max(last)) in turns_in(image) for image in draft[2]])
        draft, turn = beginnings_folded(draft, last, turn)
    return draft


def searched(draft):
    """The pair of the last draft of the search, and of a kept part of it, () if it never turns back."""
    following = draft
    while following is not None:
        draft = following
        following = lessened(draft)
        if following is None:
            kept = kept_sets(draft[0], draft[2])
            # A draft with very many ties is no stand, but joining makes one of it.
            if kept != [] and len(draft[0]) <= MAX_TIES:
                return draft, kept[0]
            following = passed(draft)
        if following is None:
            following = folded_on(draft)
    return draft, ()
