"""Gates: ties at a point that are led on as one; whether roads, put together again and again, turn back."""

from noroadback.base.integers import is_integer
from noroadback.base.rows import is_reduced
from noroadback.errors import Refused
from noroadback.rates.firsts import back_powers, far_firsts, firsts_of, gates_in, turns_in, turns_led_on
from noroadback.webs.stands import check_stand
from noroadback.webs.webs import check_directed, check_road


def first_of(stand, tie):
    """The first of a directed tie."""
    check_stand(stand)
    check_directed(stand.web, tie)
    return firsts_of(stand.images)[tie]


def gates(stand):
    """The tuple that has at each point the ascending tuple of its gates."""
    check_stand(stand)
    return gates_in(stand.web.ties, stand.images)


def closed_turns(stand):
    """The ascending tuple of all closed turns."""
    check_stand(stand)
    found = [(one, other) for place in gates_in(stand.web.ties, stand.images) for gate in place
             for one in gate for other in gate if one < other]
    return tuple(sorted(found))


def turns_taken(stand):
    """The ascending tuple of the turns taken."""
    check_stand(stand)
    return tuple(turns_led_on(stand.images))


def is_open(stand, road):
    """Whether a road is open."""
    check_stand(stand)
    check_road(stand.web, road)
    far = far_firsts(stand.images)
    return is_reduced(road) and all([far[one] != far[other] for one, other in turns_in(road)])


def back_paper(stand):
    """A paper that shows that a stand is never back, or where it turns back first."""
    check_stand(stand)
    powers = back_powers(stand.images)
    if powers == {}:
        return ("never", gates_in(stand.web.ties, stand.images))
    least = min(list(powers.values()))
    return ("back", least, min([tie for tie in powers if powers[tie] == least]))


def check_never_back(stand):
    """Refuse a stand that turns back."""
    if back_powers(stand.images) != {}:
        raise Refused(("back",))


def is_back_paper(stand, value):
    """Whether the value is a paper about a stand that is never back, or about one that turns back."""
    check_stand(stand)
    if not isinstance(value, tuple) or len(value) not in (2, 3):
        return False
    powers = back_powers(stand.images)
    if len(value) == 2:
        return value[0] == "never" and powers == {} and is_same(value[1], gates_in(stand.web.ties, stand.images))
    name, power, tie = value
    if name != "back" or not is_integer(power) or not is_integer(tie):
        return False
    return tie in powers and power >= powers[tie]


def is_same(value, told):
    """Whether a value is, with integers alone, a told tuple of integers and of such tuples."""
    if isinstance(told, tuple):
        if not isinstance(value, tuple) or len(value) != len(told):
            return False
        return all([is_same(one, other) for one, other in zip(value, told)])
    return is_integer(value) and value == told
