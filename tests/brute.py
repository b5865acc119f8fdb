"""Slow and plain ways to the answers, that share nothing with the program."""

from itertools import product


def entries(letters):
    """All letters and contraries, ascending."""
    return [entry for entry in range(-letters, letters + 1) if entry]


def rows(letters, length):
    """All rows of letters and contraries, ascending."""
    return list(product(entries(letters), repeat=length))


def is_bare(row):
    """Whether no two neighbours add up to 0."""
    return all(one + other for one, other in zip(row, row[1:]))


def words(letters, length):
    """All words of a length, ascending."""
    return [row for row in rows(letters, length) if is_bare(row)]


def words_to(letters, most):
    """All words of at most a length."""
    return [word for length in range(most + 1) for word in words(letters, length)]


def struck(row):
    """The bare form, by striking out the first two opposite neighbours again and again."""
    place = 0
    while place < len(row) - 1:
        if row[place] + row[place + 1] == 0:
            row = row[:place] + row[place + 2:]
            place = 0
        else:
            place += 1
    return row


def times(*factors):
    """The product of words."""
    return struck(sum(factors, ()))


def back(word):
    """The contrary of a word."""
    return tuple(-entry for entry in reversed(word))


def raised(word, many):
    """The power of a word."""
    return times(*[word if many > 0 else back(word)] * abs(many))


def rotations(row):
    """All rotations of a row."""
    return [row[place:] + row[:place] for place in range(len(row))] or [()]


def core_of(word):
    """The core of a word, by taking opposite first and last entries off."""
    while len(word) > 1 and word[0] + word[-1] == 0:
        word = word[1:-1]
    return word


def shrunk(row):
    """The bare form, entry by entry: for long rows."""
    kept = []
    for entry in row:
        if kept and kept[-1] + entry == 0:
            del kept[-1]
        else:
            kept.append(entry)
    return tuple(kept)


def told(words, way):
    """What a way tells: the product of the words with these numbers, contraries for numbers below 0."""
    return shrunk([entry for number in way for entry in (words[number - 1] if number > 0 else back(words[-number - 1]))])


def behind(one, other):
    """The images of the product of two turners."""
    return tuple(told(one, image) for image in other)


def idle(letters):
    """The images of the idle turner."""
    return tuple((letter,) for letter in range(1, letters + 1))


def move_images(letters, move):
    """The images of a single move."""
    images = list(idle(letters))
    name, letter = move[0], move[1]
    if name == "turn":
        images[letter - 1] = (-letter,)
    if name == "swap":
        images[letter - 1], images[move[2] - 1] = (move[2],), (letter,)
    if name == "behind":
        images[letter - 1] = (letter, move[2])
    if name == "ahead":
        images[letter - 1] = (move[2], letter)
    return tuple(images)


def all_moves(letters):
    """All single moves of so many letters."""
    numbers = range(1, letters + 1)
    found = [("turn", one) for one in numbers]
    found += [("swap", one, other) for one in numbers for other in numbers if one < other]
    return found + [(name, one, other) for name in ("behind", "ahead") for one in numbers
                    for other in entries(letters) if abs(other) != one]


def first_products(letters, moves):
    """The images of all products of the first ones of some moves, from none on."""
    found = [idle(letters)]
    for move in moves:
        found.append(behind(found[-1], move_images(letters, move)))
    return found


def length(images):
    """The sum of the lengths of some images."""
    return sum(len(image) for image in images)


def web(rows):
    """The ties (start, entry, end) of the loops at the point 0 that read some rows, made one wherever two agree."""
    ties = set()
    for number, row in enumerate(rows):
        points = [0] + [(number, place) for place in range(1, len(row))] + [0]
        for place, entry in enumerate(row):
            ties |= {(points[place], entry, points[place + 1]), (points[place + 1], -entry, points[place])}
    while True:
        pairs = {}
        for start, entry, end in sorted(ties, key=repr):
            pairs.setdefault((start, entry), []).append(end)
        unlike = [sorted(set(ends), key=lambda point: (point != 0, repr(point))) for ends in pairs.values()]
        unlike = [ends for ends in unlike if len(ends) > 1]
        if not unlike:
            return ties
        kept, lost = unlike[0][:2]
        ties = {(kept if start == lost else start, entry, kept if end == lost else end) for start, entry, end in ties}


def is_in_lot(ties, word):
    """Whether a word leads through the ties of a web from the point 0 to itself."""
    goals = {(start, entry): end for start, entry, end in ties}
    point = 0
    for entry in word:
        point = goals.get((point, entry))
    return point == 0


def rank(ties):
    """The rank of a web."""
    return len(ties) // 2 - len({0} | {start for start, _, _ in ties}) + 1


def undone(images):
    """The images that undo some images: words are put together until letters are left; slow for long images."""
    letters = len(images)
    rows = {number: (images[number - 1], (number,)) for number in range(1, letters + 1)}
    while length([row for row, _ in rows.values()]) > letters:
        found = []
        for one in rows:
            for other in entries(letters):
                if abs(other) != one:
                    row, way = rows[abs(other)] if other > 0 else map(back, rows[-other])
                    found.append((one, times(rows[one][0], row), times(rows[one][1], way)))
                    found.append((one, times(row, rows[one][0]), times(way, rows[one][1])))
        gains = [(len(rows[one][0]) - len(row), -len(way), one, row, way) for one, row, way in found]
        gain, _, one, row, way = max(gains)
        if gain <= 0:
            rest = [told for told in gains if told[0] == 0 and (tuple(map(abs, told[3])), told[3]) < (
                tuple(map(abs, rows[told[2]][0])), rows[told[2]][0])]
            _, _, one, row, way = rest[0]
        rows[one] = (row, way)
    ways = dict(rows.values())
    return tuple(ways[(letter,)] if (letter,) in ways else back(ways[(-letter,)]) for letter in range(1, letters + 1))


def begin(ties, tie):
    """The point at which a directed tie begins."""
    return ties[tie - 1][0] if tie > 0 else ties[-tie - 1][1]


def end(ties, tie):
    """The point at which a directed tie ends."""
    return begin(ties, -tie)


def points(ties):
    """All points, ascending."""
    return sorted({point for pair in ties for point in pair})


def beginnings(ties, point):
    """The directed ties that begin at a point, ascending."""
    return tuple(tie for tie in entries(len(ties)) if begin(ties, tie) == point)


def joins(ties, chosen, one, other):
    """Whether some ties lead from one point to another one."""
    reached = {one}
    for _ in ties:
        for tie in chosen:
            if set(ties[tie - 1]) & reached:
                reached |= set(ties[tie - 1])
    return other in reached


def tree(ties):
    """The least tree: ties that close no round with those ahead."""
    taken = []
    for tie in range(1, len(ties) + 1):
        if not joins(ties, taken, *ties[tie - 1]):
            taken.append(tie)
    return tuple(taken)


def tree_road(ties, one, other):
    """The tight road in the least tree from one point to another one, by trying all."""
    waiting = [(one, ())]
    for point, road in waiting:
        if point == other:
            return road
        for tie in beginnings(ties, point):
            if abs(tie) in tree(ties) and (not road or road[-1] != -tie):
                waiting.append((end(ties, tie), road + (tie,)))


def base_rounds(ties):
    """The rounds at 0 of the ties outside the least tree, and the words of the base naming."""
    outside = [tie for tie in range(1, len(ties) + 1) if tie not in tree(ties)]
    rounds = tuple(struck(tree_road(ties, 0, begin(ties, tie)) + (tie,) + tree_road(ties, end(ties, tie), 0)) for tie in outside)
    return rounds, tuple((outside.index(tie) + 1,) if tie in outside else () for tie in range(1, len(ties) + 1))


def reading(words, road):
    """The product of the words of the ties of a road."""
    return told(words, road)


def led(images, road):
    """What a road is led to, tight."""
    return told(images, road)


def put_together(images, road):
    """The images of the ties of a road, one behind the other."""
    sides = {sign * tie: image if sign > 0 else back(image) for tie, image in enumerate(images, start=1) for sign in (1, -1)}
    return tuple(entry for tie in road for entry in sides[tie])


def ring(word):
    """The least rotation of what is left when opposites are struck out, also the last and the first entry."""
    return min(rotations(core_of(shrunk(word))))


def turned(word, by):
    """A word turned by another one."""
    return shrunk(by + word + back(by))


def alike_words(ones, others, most):
    """All words of at most a length by which each of some words is turned to that of other ones."""
    return [word for word in words_to(len(ones), most) if [turned(one, word) for one in ones] == list(others)]
