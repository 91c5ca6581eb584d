"""What several tests draw, and their own sums: nothing here asks the program."""

import copy
import itertools

RESTS = [0] + list(range(2, 61))
BAD_RESTS = (1, -1, -2, -60, 61, 62, 10 ** 29, -(10 ** 29))


def some_number(chance, figures=25):
    """A number of any sign, of any count of figures as likely as another."""
    return chance.randint(-(10 ** chance.randint(0, figures)) + 1, 10 ** chance.randint(0, figures) - 1)


def some_row(chance, many, figures=25):
    return [some_number(chance, figures) for _ in range(many)]


def some_table(chance, lines, wide, most):
    return [[chance.randint(-most, most) for _ in range(wide)] for _ in range(lines)]


def some_faces(chance, most=10, points=16):
    """Faces of one to four points, in any order of points, some of them twice."""
    among = chance.sample(range(16), chance.randint(4, points))
    faces = [tuple(chance.sample(among, chance.randint(1, 4))) for _ in range(chance.randint(0, most))]
    if faces and chance.random() < 0.5:
        again = list(chance.choice(faces))
        chance.shuffle(again)
        faces[chance.randrange(len(faces))] = tuple(again)
    # No web has more than 120 faces.
    while len(closed(faces)) > 120:
        faces.pop()
    return faces


def closed(faces):
    """All own faces of the faces, growing, in Python's order of tuples."""
    told = set()
    for face in faces:
        for many in range(1, len(face) + 1):
            told.update(itertools.combinations(sorted(face), many))
    return sorted(told)


def of_size(faces, size):
    return [face for face in closed(faces) if len(face) == size + 1]


def own_border(faces, size, row):
    """The border of a row on the faces of a size, by point 5."""
    told = {face: 0 for face in of_size(faces, size - 1)}
    for face, number in zip(of_size(faces, size), row):
        for at in range(len(face) if size else 0):
            told[face[:at] + face[at + 1:]] += (1, -1)[at % 2] * number
    return [told[face] for face in sorted(told)]


def own_rise(faces, size, row):
    """The rise of a row on the faces of a size, by point 5."""
    numbers = dict(zip(of_size(faces, size), row))
    told = []
    for face in of_size(faces, size + 1):
        sides = [face[:at] + face[at + 1:] for at in range(len(face))] if len(face) > 1 else []
        told.append(sum((1, -1)[at % 2] * numbers[side] for at, side in enumerate(sides)))
    return told


def by_columns(function, faces, size, lines):
    """The table of a border or a rise, so many lines long: what it makes of each face alone."""
    many = len(of_size(faces, size))
    columns = [function(faces, size, [int(at == place) for place in range(many)]) for at in range(many)]
    return [[column[line] for column in columns] for line in range(lines)]


def by_rests(row, rests):
    return [number % rests if rests else number for number in row]


def refusals(good_row, *, good_rests=(0, 2, 60)):
    """(size, rests, row, the name of the refusal that goes first) for rows on a web's faces of sizes 0 to 3.

    good_row tells a row of a size; what is wrong is wrong alone, and with all else that may be wrong beside it.
    """
    told = []
    for size in (-1, 4, -2, 5, 10 ** 29, -(10 ** 29)):
        for rests in tuple(good_rests) + BAD_RESTS:
            for row in ([], [0], [0] * 400):
                told.append((size, rests, row, "BadSize"))
    for size in range(4):
        row = good_row(size)
        wrong = [row + [0], row + [5] * 3] + ([row[:-1], []] if row else [])
        for rests in BAD_RESTS:
            told.extend((size, rests, handed, "BadRests") for handed in [row] + wrong)
        for rests in good_rests:
            told.extend((size, rests, handed, "BadRow") for handed in wrong)
    return told


def turned_at_one(chance, row):
    """The row with one of its numbers another one."""
    row = list(row)
    if row:
        row[chance.randrange(len(row))] += chance.choice((1, -1, 2, 30, 10 ** 12))
    return row


def is_multiple(number, many):
    return number == 0 if many == 0 else number % many == 0


def line_sums(table, numbers):
    return [sum(line[at] * numbers[at] for at in range(len(numbers))) for line in table]


def holds(table, wide, wish, told, rests):
    """True where a paper is one, by point 8."""
    if told[0] == "found":
        numbers = told[1]
        if len(numbers) != wide:
            return False
        sums = line_sums(table, numbers)
        return all(is_multiple(reached - wished, rests) for reached, wished in zip(sums, wish))
    numbers, many = told[1:]
    if len(numbers) != len(table) or (many != rests if rests else many < 0 or many == 1):
        return False
    for column in range(wide):
        if not is_multiple(sum(table[at][column] * numbers[at] for at in range(len(table))), many):
            return False
    return not is_multiple(sum(wish[at] * numbers[at] for at in range(len(table))), many)


def bent_lists(chance, numbers):
    """Lists that are nearly the numbers, and those themselves."""
    told = [list(numbers), [], list(numbers) + [0], list(numbers) + [some_number(chance, 5)], [0] * len(numbers)]
    told.append([-number for number in numbers])
    for at in range(len(numbers)):
        for number in (numbers[at] + 1, numbers[at] - 1, some_number(chance), numbers[at] + 60):
            told.append(numbers[:at] + [number] + numbers[at + 1:])
        told.append(numbers[:at] + numbers[at + 1:])
    return told


def bent_papers(chance, told, rests):
    """Papers that are nearly the one that is told, of both words, and that one itself."""
    manys = [-60, -2, -1, 0, 1, 2, 3, 60, rests, -rests, 2 * rests, 3 * rests, rests + 1]
    manys.extend([told[2], 2 * told[2], -told[2], told[2] + 1] if told[0] == "barred" else [])
    papers = [copy.deepcopy(told)]
    for numbers in bent_lists(chance, told[1]):
        papers.append(("found", numbers))
        papers.append(("barred", list(numbers), told[2] if told[0] == "barred" else rests))
    papers.extend(("barred", list(told[1]), many) for many in manys)
    return papers
