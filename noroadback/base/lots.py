"""Lots of words: all products of some words and of their contraries."""

from noroadback.base.folding import base_of, folded_web, has_all, led_point, permutations_of, rank_of
from noroadback.base.integers import is_within
from noroadback.base.rows import opposite, product_of
from noroadback.base.shortening import level_step, next_step, shortening_step
from noroadback.base.sides import SIGNS, put_behind, row_of, sides_of, single_rows, told_row
from noroadback.base.words import MAX_WORD, check_letters, check_words, is_bare_row
from noroadback.errors import InvalidWord

MAX_WORDS = 6
MAX_POINTS = 1200


def are_words(letters, value, least):
    """Whether the value is a tuple of words of the letters, at least so many and at most six."""
    if not isinstance(value, tuple) or not least <= len(value) <= MAX_WORDS:
        return False
    return all([is_bare_row(letters, word, MAX_WORD) for word in value])


def check_lot(letters, words):
    """Raise the error of what is no tuple of at most six words of the letters."""
    if not are_words(letters, words, 0):
        raise InvalidWord("no tuple of at most six words of the letters")


def web_of(letters, words):
    """The folded web of some words, behind their errors."""
    check_letters(letters)
    check_lot(letters, words)
    return folded_web(letters, words)


def all_paper(letters, words):
    """A paper that shows that some words make all, or that they do not."""
    goals = web_of(letters, words)
    if not has_all(letters, goals):
        return ("moves", permutations_of(letters, goals))
    return ("all", tuple([way_to(words, letter) for letter in single_rows(letters)]))


def is_all_paper(letters, words, value):
    """Whether the value is a paper as of all_paper."""
    check_letters(letters)
    check_lot(letters, words)
    if not isinstance(value, tuple) or len(value) != 2 or not isinstance(value[1], tuple):
        return False
    if value[0] == "all":
        return len(value[1]) == letters and all([
            does_tell(words, way, letter) for way, letter in zip(value[1], single_rows(letters))
        ])
    return value[0] == "moves" and do_keep_a_place(letters, words, value[1])


def do_make_all(letters, words):
    """Whether some words make all."""
    return has_all(letters, web_of(letters, words))


def way_of(letters, words, word):
    """A way of some words that tells a word, None if the word is not in their lot."""
    check_letters(letters)
    check_lot(letters, words)
    check_words(letters, (word,))
    if led_point(folded_web(letters, words), word) != 0:
        return None
    return way_to(words, word)


def is_way(letters, words, word, value):
    """Whether the value is a way of some words that tells a word."""
    check_letters(letters)
    check_lot(letters, words)
    check_words(letters, (word,))
    return does_tell(words, value, word)


def lot_rank(letters, words):
    """The number of the words in each base of the lot of some words."""
    return rank_of(web_of(letters, words))


def lot_base(letters, words):
    """A base of the lot of some words."""
    return base_of(letters, web_of(letters, words))


def are_one_lot(letters, one, other):
    """Whether two tuples of words have one lot."""
    first = web_of(letters, one)
    second = web_of(letters, other)
    return all([led_point(second, word) == 0 for word in one] + [led_point(first, word) == 0 for word in other])


def way_to(words, word):
    """A way of some words that tells a word of their lot."""
    aim = len(words) + 1
    sides = sides_of([*words, word])
    ways = sides_of(single_rows(aim))
    numbers = [number for number in sides if abs(number) != aim]
    while sides[aim] != "":
        goal, piece = step_to(sides, ways, numbers, aim)
        put_behind(sides, goal, piece)
        put_behind(ways, goal, piece)
    # Where the aim stands in its own way, the word stands; what this makes with the rest is ().
    ahead, _, behind = ways[aim].partition(SIGNS[aim])
    return product_of((opposite(row_of(ahead)), opposite(row_of(behind))))


def step_to(sides, ways, numbers, aim):
    """The next step by which the row of the aim becomes (), if it is in the lot of the rows of the numbers."""
    # The aim comes first: early rows have short ways.
    step = shortening_step(sides, ways, [aim, -aim], numbers)
    if step is None:
        step = next_step(sides, ways, numbers)
    if step is None:
        step = level_step(sides, [aim], numbers)
    return step


def does_tell(words, way, word):
    """Whether a value is a way of some words that tells a word."""
    if not isinstance(way, tuple):
        return False
    most = len(words)
    if not all([is_within(number, -most, most) and number != 0 for number in way]):
        return False
    return told_row(sides_of(words), way) == word


def are_permutations(letters, rows):
    """Whether a tuple is one of permutations of equally many points, one for each letter."""
    if len(rows) != letters or not all([isinstance(row, tuple) for row in rows]):
        return False
    size = len(rows[0])
    if not 2 <= size <= MAX_POINTS:
        return False
    return all([is_permutation(row, size) for row in rows])


def is_permutation(row, size):
    """Whether a tuple has each of so many points once."""
    if not all([is_within(point, 0, size - 1) for point in row]):
        return False
    return len(row) == size and len(set(row)) == size


def ties_of(rows):
    """A dict from pairs of a point and a letter or contrary to the point where this leads."""
    goals = {}
    for number, row in enumerate(rows, start=1):
        for point, goal in enumerate(row):
            goals[point, number] = goal
            goals[goal, -number] = point
    return goals


def reached_number(rows):
    """To how many points permutations lead the point 0, again and again."""
    reached = [0]
    known = {0: True}
    done = 0
    while done < len(reached):
        point = reached[done]
        done += 1
        for row in rows:
            if row[point] not in known:
                known[row[point]] = True
                reached.append(row[point])
    return len(reached)


def do_keep_a_place(letters, words, rows):
    """Whether a tuple is one of moves that hang together and under which each word leads 0 to itself."""
    if not are_permutations(letters, rows) or reached_number(rows) != len(rows[0]):
        return False
    goals = ties_of(rows)
    return all([led_point(goals, word) == 0 for word in words])
