"""Firsts, gates and turns of webs that are led into themselves, told by ties and images. Nothing is checked here.

No image is (). A turn is a sorted pair of two unlike directed ties that begin at one point.
"""

from noroadback.webs.ties import beginnings_at, points_in


def firsts_of(images):
    """A dict from each directed tie to its first."""
    firsts = {}
    for tie, image in enumerate(images, start=1):
        firsts[tie] = image[0]
        firsts[-tie] = -image[-1]
    return firsts


def far_firsts(images):
    """A dict from each directed tie to what it is led to by taking firsts so often that gates are told by it."""
    firsts = firsts_of(images)
    far = {tie: tie for tie in firsts}
    for _ in range(2 * len(images)):
        far = {tie: firsts[goal] for tie, goal in far.items()}
    return far


def gates_in(ties, images):
    """The tuple that has at each point the ascending tuple of its gates."""
    far = far_firsts(images)
    found = []
    for point in points_in(ties):
        gates_there = {}
        for tie in beginnings_at(ties, point):
            gates_there.setdefault(far[tie], []).append(tie)
        # Ties come ascending, so that gates come by their least ties.
        found.append(tuple([tuple(gate) for gate in gates_there.values()]))
    return tuple(found)


def turns_in(road):
    """The list of the turns of a tight road."""
    return [(min(-one, other), max(-one, other)) for one, other in zip(road, road[1:])]


def turn_led(firsts, turn):
    """The sorted pair of the firsts of a turn; they can be equal."""
    one, other = firsts[turn[0]], firsts[turn[1]]
    return (min(one, other), max(one, other))


def turns_led_on(images):
    """The ascending list of all turns of images and of the turns that these are led to by firsts."""
    firsts = firsts_of(images)
    known = {}
    waiting = [turn for image in images for turn in turns_in(image)]
    while waiting:
        turn = waiting.pop()
        if turn not in known and turn[0] != turn[1]:
            known[turn] = True
            waiting.append(turn_led(firsts, turn))
    return sorted(list(known))


def steps_to_close(firsts, turn):
    """How often firsts are taken until both ties of a turn come to one, None if they never do."""
    steps = 0
    # Two ties that do not come to one after as many steps as there are directed ties never do.
    while turn[0] != turn[1]:
        if steps > len(firsts):
            return None
        turn = turn_led(firsts, turn)
        steps += 1
    return steps


def back_powers(images):
    """A dict from the numbers of ties to the least powers at which the images, put together, are not tight.

    It has the ties alone for which there is one.
    """
    firsts = firsts_of(images)
    powers = {}
    for tie, image in enumerate(images, start=1):
        # Long images have the same turns again and again.
        different = {turn: True for turn in turns_in(image)}
        steps = [steps_to_close(firsts, turn) for turn in different]
        found = [step + 1 for step in steps if step is not None]
        if found != []:
            powers[tie] = min(found)
    # A tie whose image has another one turns back by one power later than this does, or sooner.
    ties_in = [list({abs(entry): True for entry in image}) for image in images]
    for _ in range(len(images)):
        for tie, others in enumerate(ties_in, start=1):
            later = [powers[other] + 1 for other in others if other in powers]
            if later != []:
                powers[tie] = min(later + [powers.get(tie, later[0])])
    return powers
