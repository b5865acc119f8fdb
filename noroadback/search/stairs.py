"""Stairs of kept parts: turners of pieces and of what is left, step by step, until no part is kept."""

from noroadback.base.integers import is_within
from noroadback.errors import InvalidOperation
from noroadback.search.parts import piece_at, piece_images, rest_images, round_from, rounds_of_pieces
from noroadback.search.search import check_searched, is_kept_part, is_search_paper, paper_of
from noroadback.turns.alike import alike_word
from noroadback.turns.turners import Turner, check_turner, turner_made
from noroadback.webs.changes import draft_of
from noroadback.webs.stands import check_stand
from noroadback.webs.ties import points_in
from noroadback.webs.webs import check_point


def check_kept_part(stand, ties):
    """Raise the errors of what is no stand, or no kept part of it."""
    check_stand(stand)
    if not is_kept_part(stand, ties):
        raise InvalidOperation("no kept part of the stand")


def piece_told(stand, ties, point):
    """The pair of the power of the piece in which a point lies, and of its turner, None if there is no such piece."""
    draft = draft_of(stand)
    piece = piece_at(stand.web.ties, ties, point)
    if piece is None:
        return None
    power = len(round_from(draft, ties, piece))
    return power, turner_made(piece_images(draft, piece, power))


def piece_turner(stand, ties, point):
    """The pair of the power of the piece in which a point lies, and of a turner that is alike to that of the piece."""
    check_kept_part(stand, ties)
    check_point(stand.web, point)
    told = piece_told(stand, ties, point)
    if told is None:
        raise InvalidOperation("no point of a piece with a rank above 0")
    return told


def rest_told(stand, ties):
    """A turner that is alike to that of what is left without a kept part, None if its rank is 0."""
    images = rest_images(draft_of(stand), ties)
    return None if images is None else turner_made(images)


def shrunk_turner(stand, ties):
    """A turner that is alike to that of what is left without a kept part, None if its rank is 0."""
    check_kept_part(stand, ties)
    return rest_told(stand, ties)


def sources_of(index, paper):
    """The list of the sources of the steps that a step with an index and a paper asks for."""
    if paper[0] != "kept":
        return []
    _, stand, ties = paper
    firsts = [found[0] for found in rounds_of_pieces(draft_of(stand), ties)]
    sources = [(index, "piece", points_in([stand.web.ties[tie - 1] for tie in piece])[0]) for piece in firsts]
    return sources if rest_told(stand, ties) is None else sources + [(index, "rest")]


def turner_by(source, paper):
    """The turner that a source tells, whose step has a paper with a kept part."""
    _, stand, ties = paper
    if source[1] == "rest":
        return rest_told(stand, ties)
    return piece_told(stand, ties, source[2])[1]


def stair_paper(turner):
    """A stair of a turner."""
    check_searched(turner)
    steps = [((), turner, paper_of(turner))]
    index = 0
    while index < len(steps):
        paper = steps[index][2]
        for source in sources_of(index, paper):
            following = turner_by(source, paper)
            steps.append((source, following, paper_of(following)))
        index += 1
    return tuple(steps)


def step_asked(steps, index, source):
    """What the source of a step asks for: the index of an earlier step, and a round of pieces or what is left; or None.

    A round of pieces is told by the least of its ties.
    """
    if not isinstance(source, tuple) or len(source) not in (2, 3) or not is_within(source[0], 0, index - 1):
        return None
    paper = steps[source[0]][2]
    if paper[0] != "kept":
        return None
    _, stand, ties = paper
    if len(source) == 2:
        return source if source[1] == "rest" and rest_told(stand, ties) is not None else None
    if source[1] != "piece" or not is_within(source[2], 0, stand.web.points - 1):
        return None
    piece = piece_at(stand.web.ties, ties, source[2])
    if piece is None:
        return None
    return source[0], min([tie for found in round_from(draft_of(stand), ties, piece) for tie in found])


def do_agree(one, other):
    """Whether two turners are alike; they can have unlike numbers of letters."""
    return one.letters == other.letters and alike_word(one, other) is not None


def is_step(value):
    """Whether the value is a triple of a source, of a turner and of a paper of the search for it."""
    if not isinstance(value, tuple) or len(value) != 3 or not isinstance(value[1], Turner):
        return False
    return is_search_paper(value[1], value[2])


def is_stair_paper(turner, value):
    """Whether the value is a stair of a turner."""
    check_turner(turner)
    if not isinstance(value, tuple) or value == () or not all([is_step(step) for step in value]):
        return False
    if value[0][0] != () or not do_agree(value[0][1], turner):
        return False
    known = {}
    for index, (source, following, _) in enumerate(value):
        if index == 0:
            continue
        asked = step_asked(value, index, source)
        if asked is None or asked in known or not do_agree(turner_by(source, value[source[0]][2]), following):
            return False
        known[asked] = True
    # No two steps ask for the same, so that nothing is lacking if there are as many as are asked for.
    return len(known) == sum([len(sources_of(index, step[2])) for index, step in enumerate(value)])
