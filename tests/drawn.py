"""What several tests draw, and their own sums: nothing here asks the program."""

import copy
import itertools
import re

RESTS = [0] + list(range(2, 61))
# Tuples that are no faces.
NO_FACES = ((), (0, 0), (1, 0, 1), (-1,), (16,), (0, 16), (0, 1, 2, 3, 4), (10 ** 29,), (5, -5))
BAD_RESTS = (1, -1, -2, -60, 61, 62, 10 ** 29, -(10 ** 29))

# Ten triangles on six points, each stretch in two of them: a ring of stretches is no border, but twice it is one.
BENT_PLANE = [
    (0, 1, 2), (0, 2, 3), (0, 3, 4), (0, 4, 5), (0, 1, 5), (1, 2, 4), (2, 3, 5), (1, 3, 4), (2, 4, 5), (1, 3, 5),
]
# Seven points, each two of them joined, and fourteen triangles that wrap a ring around a ring.
TWO_RINGS = [tuple(sorted(((k + at) % 7) for at in way)) for k in range(7) for way in ((0, 1, 3), (0, 2, 3))]


def wall(many):
    """The closed wall of so many points: all sides of the face that they would be."""
    return list(itertools.combinations(range(many), many - 1))


def loop(many):
    """A ring of stretches through so many points."""
    return [(at, (at + 1) % many) for at in range(many)]


def wound(times):
    """A disc whose rim runs so many times around the ring of the points 0, 1 and 2."""
    rim = 3 * times
    faces = []
    for at in range(rim):
        inner, further = 4 + at, 4 + (at + 1) % rim
        faces.append((3, inner, further))
        faces.append((inner, further, (at + 1) % 3))
        faces.append((inner, at % 3, (at + 1) % 3))
    return faces


def side_by_side(faces, others):
    """Both lists of faces, the points of the second one raised beyond those of the first."""
    by = max((max(face) + 1 for face in faces), default=0)
    return faces + [tuple(point + by for point in face) for face in others]


def bent_on_wound():
    """The bent plane and the disc wound thrice, put together at a triangle."""
    places = (3, 4, 5, 13, 14, 15)
    return wound(3) + [tuple(places[point] for point in face) for face in BENT_PLANE]


def known_webs():
    """A dict of faces by plain names: what is known of their groups stands in the tests."""
    return {
        "none": [],
        "point": [(5,)],
        "stretch": [(0, 9)],
        "triangle": [(2, 3, 7)],
        "four": [(1, 4, 9, 15)],
        "wall of three": wall(3),
        "wall of four": wall(4),
        "wall of five": wall(5),
        "loop of five": loop(5),
        "wound twice": wound(2),
        "wound thrice": wound(3),
        "bent plane": BENT_PLANE,
        "two rings": TWO_RINGS,
        "walls beside": side_by_side(wall(3), wall(4)),
        "bent and wound": side_by_side(BENT_PLANE, wound(2)),
        "bent on wound": bent_on_wound(),
        "points": [(0,), (3,), (15,)],
    }


def some_number(chance, figures=25):
    """A number of any sign, of any count of figures as likely as another."""
    return chance.randint(-(10 ** chance.randint(0, figures)) + 1, 10 ** chance.randint(0, figures) - 1)


def some_row(chance, many, figures=25):
    return [some_number(chance, figures) for _ in range(many)]


def some_table(chance, lines, wide, most):
    return [[chance.randint(-most, most) for _ in range(wide)] for _ in range(lines)]


def some_faces(chance, most=10, points=16):
    """Faces of one to four points, in any order of points, some of them twice."""
    among = chance.sample(range(16), chance.randint(4, points))
    faces = [tuple(chance.sample(among, chance.randint(1, 4))) for _ in range(chance.randint(0, most))]
    if faces and chance.random() < 0.5:
        again = list(chance.choice(faces))
        chance.shuffle(again)
        faces[chance.randrange(len(faces))] = tuple(again)
    # No web has more than 120 faces.
    while len(closed(faces)) > 120:
        faces.pop()
    return faces


def closed(faces):
    """All own faces of the faces, growing, in Python's order of tuples."""
    told = set()
    for face in faces:
        for many in range(1, len(face) + 1):
            told.update(itertools.combinations(sorted(face), many))
    return sorted(told)


def of_size(faces, size):
    return [face for face in closed(faces) if len(face) == size + 1]


def own_border(faces, size, row):
    """The border of a row on the faces of a size, by point 5."""
    told = {face: 0 for face in of_size(faces, size - 1)}
    for face, number in zip(of_size(faces, size), row):
        for at in range(len(face) if size else 0):
            told[face[:at] + face[at + 1:]] += (1, -1)[at % 2] * number
    return [told[face] for face in sorted(told)]


def own_rise(faces, size, row):
    """The rise of a row on the faces of a size, by point 5."""
    numbers = dict(zip(of_size(faces, size), row))
    told = []
    for face in of_size(faces, size + 1):
        sides = [face[:at] + face[at + 1:] for at in range(len(face))] if len(face) > 1 else []
        told.append(sum((1, -1)[at % 2] * numbers[side] for at, side in enumerate(sides)))
    return told


def sign_of(points):
    """The sign of the exchanges of neighbours that sort the points, by doing them; 0 where two are alike."""
    points = list(points)
    if len(set(points)) < len(points):
        return 0
    sign = 1
    while points != sorted(points):
        for at in range(len(points) - 1):
            if points[at] > points[at + 1]:
                points[at], points[at + 1] = points[at + 1], points[at]
                sign = -sign
    return sign


def own_led_back(faces, others, leads, size, row):
    """The row led back, by point 13."""
    numbers = dict(zip(of_size(others, size), row, strict=True))
    told = []
    for face in of_size(faces, size):
        led = [leads[point] for point in face]
        told.append(sign_of(led) * numbers[tuple(sorted(led))] if sign_of(led) else 0)
    return told


def least_fresh(faces):
    there = {point for face in faces for point in face}
    left = [point for point in range(16) if point not in there]
    return left[0] if left else None


def own_finer(faces, face):
    """(the finer web's faces, what each replaced face goes over to, the new point) by point 14."""
    fresh = least_fresh(faces)
    later, gone = [], {}
    for other in closed(faces):
        if not set(face) <= set(other):
            later.append(other)
            continue
        gone[other] = []
        for point in face:
            led = tuple(fresh if part == point else part for part in other)
            gone[other].append((tuple(sorted(led)), sign_of(led)))
            later.append(led)
    return closed(later), gone, fresh


def own_lesser(faces, face):
    """(the lesser web's faces, what each face that goes goes over to) by point 14."""
    free = tuple(sorted(face))
    greater = [other for other in closed(faces) if set(free) < set(other)]
    assert len(greater) == 1
    border = {greater[0][:at] + greater[0][at + 1:]: (1, -1)[at % 2] for at in range(len(greater[0]))}
    own = border.pop(free)
    gone = {free: [(side, -own * sign) for side, sign in border.items()], greater[0]: []}
    return [other for other in closed(faces) if other not in gone], gone


def free_faces(faces):
    there = closed(faces)
    return [face for face in there if sum(set(face) < set(other) for other in there) == 1]


def own_over(faces, later, gone, size, row):
    """The row that goes over to the later faces, by what each face that does not stay goes over to."""
    told = {face: 0 for face in of_size(later, size)}
    for face, number in zip(of_size(faces, size), row, strict=True):
        for other, sign in gone.get(face, [(face, 1)]):
            told[other] += sign * number
    return list(told.values())


def by_columns(function, faces, size, lines):
    """The table of a border or a rise, so many lines long: what it makes of each face alone."""
    many = len(of_size(faces, size))
    columns = [function(faces, size, [int(at == place) for place in range(many)]) for at in range(many)]
    return [[column[line] for column in columns] for line in range(lines)]


def fill_table(faces, size):
    """The table whose wish is a row to be filled, and its width."""
    lines, wide = len(of_size(faces, size)), len(of_size(faces, size + 1))
    return by_columns(own_border, faces, size + 1, lines), wide


def raise_table(faces, size):
    """The table whose wish is a row to be raised, and its width."""
    lines, wide = len(of_size(faces, size)), len(of_size(faces, size - 1))
    return by_columns(own_rise, faces, size - 1, lines), wide


def kernel(table, wide):
    """Rows of which each row by which all lines sum up to nought is a whole sum; by plain column steps."""
    columns = [[line[at] for line in table] + [int(at == place) for place in range(wide)] for at in range(wide)]
    first = 0
    for line in range(len(table)):
        while True:
            left = [at for at in range(first, wide) if columns[at][line]]
            if not left:
                break
            least = min(left, key=lambda at: abs(columns[at][line]))
            columns[first], columns[least] = columns[least], columns[first]
            if len(left) == 1:
                first += 1
                break
            for at in range(first + 1, wide):
                times = columns[at][line] // columns[first][line]
                columns[at] = [number - times * less for number, less in zip(columns[at], columns[first])]
    return [column[len(table):] for column in columns[first:]]


def kernel_by_rests(table, wide, rests):
    """The same where the lines sum up to nought by rests."""
    if not rests:
        return kernel(table, wide)
    lines = [list(line) + [rests * int(at == place) for place in range(len(table))] for at, line in enumerate(table)]
    return [row[:wide] for row in kernel(lines, wide + len(table))]


def some_sum(chance, rows, many, figures=3):
    """A sum of rows so many long, each so many times."""
    told = [0] * many
    for row in rows:
        times = some_number(chance, figures)
        told = [number + times * more for number, more in zip(told, row)]
    return told


def by_rests(row, rests):
    return [number % rests if rests else number for number in row]


def refusals(good_row, *, good_rests=(0, 2, 60)):
    """(size, rests, row, the name of the refusal that goes first) for rows on a web's faces of sizes 0 to 3.

    good_row tells a row of a size; what is wrong is wrong alone, and with all else that may be wrong beside it.
    """
    told = []
    for size in (-1, 4, -2, 5, 10 ** 29, -(10 ** 29)):
        for rests in tuple(good_rests) + BAD_RESTS:
            for row in ([], [0], [0] * 400):
                told.append((size, rests, row, "BadSize"))
    for size in range(4):
        row = good_row(size)
        wrong = [row + [0], row + [5] * 3] + ([row[:-1], []] if row else [])
        for rests in BAD_RESTS:
            told.extend((size, rests, handed, "BadRests") for handed in [row] + wrong)
        for rests in good_rests:
            told.extend((size, rests, handed, "BadRow") for handed in wrong)
    return told


def two_row_refusals(good_row):
    """(size, row, high, other, rests, the refusal that goes first) for two rows on one web's faces."""
    first = refusals(good_row)
    told = []
    for at, (size, rests, row, word) in enumerate(first):
        # Whatever the second row is, the first one is looked at ahead of it.
        for high, more, other, later in first[at % 11::97]:
            told.append((size, row, high, other, rests, word))
        told.append((size, row, at % 4, good_row(at % 4), rests, word))
        told.append((at % 4, good_row(at % 4), size, row, rests, "BadRests" if rests in BAD_RESTS else word))
    return told


def turned_at_one(chance, row):
    """The row with one of its numbers another one."""
    row = list(row)
    if row:
        row[chance.randrange(len(row))] += chance.choice((1, -1, 2, 30, 10 ** 12))
    return row


def is_multiple(number, many):
    return number == 0 if many == 0 else number % many == 0


def line_sums(table, numbers):
    return [sum(line[at] * numbers[at] for at in range(len(numbers))) for line in table]


def holds(table, wide, wish, told, rests):
    """True where a paper is one, by point 8."""
    if told[0] == "found":
        numbers = told[1]
        if len(numbers) != wide:
            return False
        sums = line_sums(table, numbers)
        return all(is_multiple(reached - wished, rests) for reached, wished in zip(sums, wish))
    numbers, many = told[1:]
    if len(numbers) != len(table) or (many != rests if rests else many < 0 or many == 1):
        return False
    for column in range(wide):
        if not is_multiple(sum(table[at][column] * numbers[at] for at in range(len(table))), many):
            return False
    return not is_multiple(sum(wish[at] * numbers[at] for at in range(len(table))), many)


def bent_lists(chance, numbers):
    """Lists that are nearly the numbers, and those themselves."""
    told = [list(numbers), [], list(numbers) + [0], list(numbers) + [some_number(chance, 5)], [0] * len(numbers)]
    told.append([-number for number in numbers])
    for at in range(len(numbers)):
        for number in (numbers[at] + 1, numbers[at] - 1, some_number(chance), numbers[at] + 60):
            told.append(numbers[:at] + [number] + numbers[at + 1:])
        told.append(numbers[:at] + numbers[at + 1:])
    return told


def bent_papers(chance, told, rests):
    """Papers that are nearly the one that is told, of both words, and that one itself."""
    manys = [-60, -2, -1, 0, 1, 2, 3, 60, rests, -rests, 2 * rests, 3 * rests, rests + 1]
    manys.extend([told[2], 2 * told[2], -told[2], told[2] + 1] if told[0] == "barred" else [])
    papers = [copy.deepcopy(told)]
    for numbers in bent_lists(chance, told[1]):
        papers.append(("found", numbers))
        papers.append(("barred", list(numbers), told[2] if told[0] == "barred" else rests))
    papers.extend(("barred", list(told[1]), many) for many in manys)
    return papers


class OwnLoft:
    """A loft by points 17 and 18, slow and plain: a deed tells the word of its refusal, or None."""

    def __init__(self):
        self.webs = {}
        self.kept = {}

    def do(self, deed):
        return getattr(self, "do_" + deed[0])(*deed[1:])

    def do_begin(self, name):
        if not re.fullmatch("[a-z]{1,8}", name):
            return "BadName"
        if name in self.webs or len(self.webs) == 6:
            return "Taken" if name in self.webs else "Full"
        self.webs[name] = []

    def do_drop(self, name):
        if name not in self.webs:
            return "NoWeb"
        del self.webs[name]
        self.kept = {row: known for row, known in self.kept.items() if known[0] != name}

    def do_put(self, name, face):
        if name not in self.webs:
            return "NoWeb"
        if not 1 <= len(face) <= 4 or len(set(face)) < len(face) or not set(face) <= set(range(16)):
            return "BadFace"
        if tuple(sorted(face)) in self.webs[name]:
            return "Had"
        later = closed(self.webs[name] + [face])
        if len(later) > 120:
            return "Full"
        self.settle(name, later)

    def do_take(self, name, face):
        if name not in self.webs:
            return "NoWeb"
        if tuple(sorted(face)) not in self.webs[name]:
            return "NoFace"
        self.settle(name, [other for other in self.webs[name] if not set(face) <= set(other)])

    def settle(self, name, later):
        """Faces came or went: rows have the numbers as ahead, and go where they must."""
        elder = self.webs[name]
        self.webs[name] = later
        for row, (home, kind, size, rests, numbers) in list(self.kept.items()):
            if home != name:
                continue
            known = dict(zip(of_size(elder, size), numbers, strict=True))
            told = [known.get(face, 0) for face in of_size(later, size)]
            gone = any(number for face, number in known.items() if face not in later)
            opened = any(by_rests(own_rise(later, size, told), rests))
            if gone if kind == "ring" else opened:
                del self.kept[row]
            else:
                self.kept[row] = (home, kind, size, rests, told)

    def do_finer(self, name, face):
        if name not in self.webs:
            return "NoWeb"
        if tuple(sorted(face)) not in self.webs[name]:
            return "NoFace"
        if len(face) == 1:
            return "BadSize"
        if least_fresh(self.webs[name]) is None:
            return "Full"
        later, gone, fresh = own_finer(self.webs[name], face)
        if len(later) > 120:
            return "Full"
        self.go_over(name, later, gone, {fresh: min(face)})

    def do_lesser(self, name, face):
        if name not in self.webs:
            return "NoWeb"
        if tuple(sorted(face)) not in self.webs[name]:
            return "NoFace"
        if tuple(sorted(face)) not in free_faces(self.webs[name]):
            return "NotFree"
        later, gone = own_lesser(self.webs[name], face)
        self.go_over(name, later, gone, {})

    def go_over(self, name, later, gone, moved):
        """A web was made finer or lesser: rings go over, cuts are led back."""
        elder = self.webs[name]
        self.webs[name] = later
        leads = {face[0]: moved.get(face[0], face[0]) for face in of_size(later, 0)}
        for row, (home, kind, size, rests, numbers) in self.kept.items():
            if home == name and kind == "ring":
                numbers = own_over(elder, later, gone, size, numbers)
            elif home == name:
                numbers = own_led_back(later, elder, leads, size, numbers)
            self.kept[row] = (home, kind, size, rests, by_rests(numbers, rests))

    def do_keep(self, row, name, kind, size, rests, numbers):
        if not re.fullmatch("[a-z]{1,8}", row):
            return "BadName"
        if row in self.kept:
            return "Taken"
        if name not in self.webs:
            return "NoWeb"
        if kind not in ("ring", "cut"):
            return "BadKind"
        if size not in range(4):
            return "BadSize"
        if rests not in RESTS:
            return "BadRests"
        if len(numbers) != len(of_size(self.webs[name], size)):
            return "BadRow"
        own = own_border if kind == "ring" else own_rise
        if any(by_rests(own(self.webs[name], size, numbers), rests)):
            return "NotShut"
        if len(self.kept) == 12:
            return "Full"
        self.kept[row] = (name, kind, size, rests, by_rests(numbers, rests))

    def do_forget(self, row):
        if row not in self.kept:
            return "NoRow"
        del self.kept[row]

    def do_bundle(self, deeds):
        if any(deed[0] == "bundle" for deed in deeds):
            return "BadKind"
        webs, kept = dict(self.webs), dict(self.kept)
        for deed in deeds:
            word = self.do(deed)
            if word:
                self.webs, self.kept = webs, kept
                return word


ODD_NAMES = ("", "A", "aB", "a b", "toolongname", "abcdefghi", "a1", "-", "a.b", "none,", "z" * 400)
ODD_KINDS = ("", "rings", "Ring", "cuts", "row", "face", "CUT", "all:")


def some_name(chance, known, more="abcdefgh"):
    """A known name mostly, else a new one or an odd one."""
    if known and chance.random() < 0.75:
        return chance.choice(list(known))
    if chance.random() < 0.85:
        return chance.choice(more) + chance.choice(("", "", "x", "yyyyyyy"))
    return chance.choice(ODD_NAMES)


def shut_row(chance, faces, kind, size, rests, figures=1):
    """A ring or a cut by the test's own sums."""
    many = len(of_size(faces, size))
    own, way = (own_border, -1) if kind == "ring" else (own_rise, 1)
    table = by_columns(own, faces, size, len(of_size(faces, size + way)))
    return some_sum(chance, kernel_by_rests(table, many, rests), many, figures)


def some_keep(chance, loft):
    """A deed that keeps a row, mostly a good one."""
    name = some_name(chance, loft.webs)
    faces = loft.webs.get(name, [])
    kind = chance.choice(("ring", "cut"))
    size = chance.randint(0, max((len(face) - 1 for face in faces), default=1))
    rests = chance.choice((0, 0, 2, 3, 60, chance.choice(RESTS)))
    numbers = shut_row(chance, faces, kind, size, rests, chance.choice((1, 1, 20)))
    odd = chance.random()
    if odd < 0.05:
        kind = chance.choice(ODD_KINDS)
    elif odd < 0.1:
        size = chance.choice((-1, 4, 5, 10 ** 29, -(10 ** 29)))
    elif odd < 0.15:
        rests = chance.choice(BAD_RESTS)
    elif odd < 0.2:
        numbers = chance.choice((numbers + [0], numbers[1:], [], [5] * 400))
    elif odd < 0.3:
        numbers = turned_at_one(chance, numbers)
    row = some_name(chance, [], "klmnopqrstuv")
    return "keep", chance.choice((row, row, row, *loft.kept)), name, kind, size, rests, tuple(numbers)


def some_face(chance, faces, word):
    """A face of the web that fits the deed's word mostly, or any one on few points, or none at all."""
    odd = chance.random()
    fitting = {
        "put": [], "take": faces, "finer": [face for face in faces if len(face) > 1], "lesser": free_faces(faces),
    }[word]
    if odd < 0.05:
        return chance.choice(NO_FACES)
    if odd < 0.2 or not fitting:
        return tuple(chance.sample(range(7), chance.choice((1, 2, 2, 3, 3, 4))))
    face = chance.choice(faces if odd < 0.25 else fitting)
    return tuple(chance.sample(face, len(face)))


def some_plain_deed(chance, loft):
    """A deed that is no bundle, for a loft that stands so."""
    word = chance.choice(("begin", "put", "put", "put", "take", "finer", "lesser", "keep", "keep", "forget", "drop"))
    if not loft.webs and chance.random() < 0.6:
        word = "begin"
    if word == "drop" and chance.random() < 0.7:
        word = "put"
    if word == "keep":
        return some_keep(chance, loft)
    if word == "forget":
        return word, some_name(chance, loft.kept, "klmnopqrstuv")
    if word == "begin":
        return word, some_name(chance, loft.webs if chance.random() < 0.2 else [])
    name = some_name(chance, loft.webs)
    if word == "drop":
        return word, name
    return word, name, some_face(chance, loft.webs.get(name, []), word)


def some_deed(chance, loft):
    """Any deed for a loft that stands so, a bundle now and then."""
    if chance.random() < 0.9:
        return some_plain_deed(chance, loft)
    tried, deeds = copy.deepcopy(loft), []
    for _ in range(chance.choice((0, 1, 2, 3, 5, 12))):
        deed = some_plain_deed(chance, tried)
        # Mostly good ones, that the whole bundle may be one.
        for _ in range(3):
            if copy.deepcopy(tried).do(deed) and chance.random() < 0.9:
                deed = some_plain_deed(chance, tried)
        tried.do(deed)
        deeds.append(deed)
    if chance.random() < 0.1:
        deeds.insert(chance.randint(0, len(deeds)), ("bundle", ()))
    return "bundle", tuple(deeds)
