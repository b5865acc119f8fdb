"""The search for a stand that never turns back, or for one with a kept part."""

from noroadback.errors import TooMany
from noroadback.rates.tables import counts_in, does_hang
from noroadback.rates.firsts import back_powers
from noroadback.search.steps import grown, kept_sets, searched
from noroadback.turns.turners import check_turner
from noroadback.webs.changes import draft_of
from noroadback.webs.drafts import is_kept_set
from noroadback.webs.stands import Stand, check_stand, is_stand_of, rose_stand, stand_made
from noroadback.webs.ties import is_forest_in
from noroadback.webs.webs import are_ties_of, check_ties

MAX_LETTERS = 4
MAX_IMAGES = 40


def grown_set(stand, ties):
    """The least set of ties that has some ties and that is led into itself."""
    check_stand(stand)
    check_ties(stand.web, ties)
    return grown(stand.images, ties)


def kept_parts(stand):
    """The ascending tuple of the kept parts among the sets that grow of single ties."""
    check_stand(stand)
    return tuple(kept_sets(stand.web.ties, stand.images))


def check_searched(turner):
    """Raise the errors of what no search can be begun with."""
    check_turner(turner)
    if turner.letters > MAX_LETTERS:
        raise TooMany(MAX_LETTERS)
    if turner.length > MAX_IMAGES:
        raise TooMany(MAX_IMAGES)


def search_paper(turner):
    """A paper with a stand of a turner that never turns back, or with one that has a kept part."""
    check_searched(turner)
    return paper_of(turner)


def paper_of(turner):
    """A paper as of search_paper, for a turner with images of any lengths."""
    draft, kept = searched(draft_of(rose_stand(turner)))
    ties, words, images = draft
    stand = stand_made(ties, words, images)
    return ("never", stand) if kept == () else ("kept", stand, kept)


def is_search_paper(turner, value):
    """Whether the value is a paper as of search_paper."""
    check_turner(turner)
    if not isinstance(value, tuple) or len(value) not in (2, 3) or not isinstance(value[1], Stand):
        return False
    stand = value[1]
    if len(value) == 2:
        return value[0] == "never" and does_never_turn_back(stand) and is_stand_of(turner, stand)
    if value[0] != "kept" or stand.web.loose_points() != ():
        return False
    return is_kept_part(stand, value[2]) and is_stand_of(turner, stand)


def does_never_turn_back(stand):
    """Whether a stand never turns back, and its counts hang together."""
    return does_hang(counts_in(stand.images)) and back_powers(stand.images) == {}


def is_kept_part(stand, value):
    """Whether the value is an ascending tuple of ties that is a kept part of a stand."""
    if not are_ties_of(stand.web, value) or len(value) == stand.size:
        return False
    return is_kept_set(draft_of(stand), value) and not is_forest_in(stand.web.ties, value)
