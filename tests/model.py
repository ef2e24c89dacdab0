"""A slow transcription of the document's definitions, to compare the program with.

It shares no code with the program. It uses all of Python.
"""

import copy


# What is a value of a kind.

def ok_int(value, low, high):
    return type(value) is int and low <= value <= high


def ok_list(value, low, high, ok):
    return type(value) is tuple and low <= len(value) <= high and all(ok(part) for part in value)


def ok_ascending(value, limit):
    return (ok_list(value, 0, 100, lambda part: ok_int(part, 0, limit - 1))
            and list(value) == sorted(set(value)))


def ok_table(value, many):
    return ok_list(value, many, many, lambda part: ok_int(part, 0, many - 1))


def ok_thing(value):
    return type(value) is tuple and len(value) == 2 and ok_int(value[0], 0, 1) and ok_int(value[1], 0, 9999)


def ok_test(value, kinds, marks, notes, sides):
    def ok_case(case):
        return (type(case) is tuple and len(case) == 5 and ok_ascending(case[0], marks)
                and ok_ascending(case[1], marks) and ok_ascending(case[2], kinds)
                and ok_ascending(case[3], notes) and type(case[4]) is int and case[4] in sides)
    return ok_list(value, 0, 6, ok_case)


def ok_statement(value, kinds, marks, rows, notes, nested):
    if type(value) is not tuple or not value or type(value[0]) is not str:
        return False
    word, *rest = value
    sides = (0, 1, 2)
    forms = {
        "mark": [lambda part: ok_table(part, marks)],
        "marks": [lambda part: ok_test(part, kinds, marks, notes, sides), lambda part: ok_table(part, marks)],
        "notes": [lambda part: ok_test(part, kinds, marks, notes, sides),
                  lambda part: ok_table(part, notes), lambda part: ok_table(part, notes)],
    }
    for name in ("first", "last", "up", "down"):
        forms[name] = [lambda part: ok_int(part, 0, rows - 1)]
    for name in ("pass", "yield", "leap", "fall"):
        forms[name] = [lambda part: ok_int(part, 0, rows - 1),
                       lambda part: ok_test(part, kinds, marks, notes, sides if rows == 2 else (0,))]
    if not nested:
        inner = [lambda part: ok_list(part, 0, 6, lambda one: ok_statement(one, kinds, marks, rows, notes, True))]
        forms["if"] = [lambda part: ok_ascending(part, marks)] + inner * 2
    form = forms.get(word)
    return form is not None and len(form) == len(rest) and all(ok(part) for ok, part in zip(form, rest))


def ok_book(value):
    if type(value) is not tuple or len(value) != 5:
        return False
    begin, marks, rows, notes, deeds = value
    if not (ok_int(marks, 1, 5) and ok_int(rows, 1, 2) and ok_int(notes, 1, 6)):
        return False
    if not ok_list(begin, 1, 2, lambda part: ok_int(part, 0, marks - 1)):
        return False

    def ok_deed(deed):
        return (type(deed) is tuple and len(deed) == 2 and ok_ascending(deed[0], marks)
                and ok_list(deed[1], 0, 8, lambda one: ok_statement(one, len(begin), marks, rows, notes, False)))
    return ok_list(deeds, 1, 6, ok_deed) and deeds[0][0] == ()


def ok_stand(book, value):
    if type(value) is not tuple or len(value) != 3:
        return False
    rows, marks, notes = value

    def ok_here(thing):
        return ok_thing(thing) and thing[0] < len(book[0])

    if not ok_list(rows, book[2], book[2], lambda row: ok_list(row, 0, 100, ok_here)):
        return False
    things = sorted(set(rows[0]))
    if any(sorted(row) != things for row in rows):
        return False
    if not ok_list(marks, 0, 100, lambda one: type(one) is tuple and len(one) == 2 and ok_here(one[0])
                   and ok_int(one[1], 0, book[1] - 1)):
        return False
    if not ok_list(notes, 0, 1000, lambda one: type(one) is tuple and len(one) == 3 and ok_here(one[0])
                   and ok_here(one[1]) and ok_int(one[2], 0, book[3] - 1)):
        return False
    return ([one[0] for one in marks] == things
            and [one[:2] for one in notes] == [(x, y) for x in things for y in things if x != y])


# What runs do.

def fits(case, mine, theirs, kind, seen, side):
    return ((case[0] == () or mine in case[0]) and (case[1] == () or theirs in case[1])
            and (case[2] == () or kind in case[2]) and (case[3] == () or seen in case[3])
            and case[4] in (0, side))


class World:
    """What is there while a run is done."""

    def __init__(self, book):
        self.book = book
        self.rows = [[] for _ in range(book[2])]
        self.marks = {}
        self.notes = {}

    def stand(self, some=None):
        there = sorted(x for x in self.marks if some is None or x in some)
        return (tuple(tuple(x for x in row if x in there) for row in self.rows),
                tuple((x, self.marks[x]) for x in there),
                tuple((x, y, self.notes[x, y]) for x in there for y in there if x != y))

    @staticmethod
    def cut(stand, some):
        rows, marks, notes = stand
        return (tuple(tuple(x for x in row if x in some) for row in rows), tuple(one for one in marks if one[0] in some),
                tuple(one for one in notes if one[0] in some and one[1] in some))

    def bar(self, deed, x):
        if deed == 0:
            return "IsThere" if x in self.marks else None
        if x not in self.marks:
            return "NotThere"
        if deed > 0 and self.marks[x] not in self.book[4][deed][0]:
            return "NotLet"
        return None

    def holds(self, test, x, y, row):
        side = 0
        if row is not None:
            side = 1 if self.rows[row].index(y) < self.rows[row].index(x) else 2
        return any(fits(case, self.marks[x], self.marks[y], y[0], self.notes[x, y], side) for case in test)

    def do(self, deed, x, some=None):
        """The steps, cut to some things."""
        assert self.bar(deed, x) is None
        if deed == -1:
            for row in self.rows:
                row.remove(x)
            del self.marks[x]
            self.notes = {pair: note for pair, note in self.notes.items() if x not in pair}
            return []
        if deed == 0:
            for y in self.marks:
                self.notes[x, y] = self.notes[y, x] = 0
            for row in self.rows:
                row.append(x)
            self.marks[x] = self.book[0][x[0]]
        steps = []
        for i, statement in enumerate(self.book[4][deed][1]):
            if statement[0] != "if":
                self.execute(x, statement)
                steps.append(((i,), self.stand(some)))
                continue
            which = 0 if self.marks[x] in statement[1] else 1
            for k, inner in enumerate(statement[2 + which]):
                self.execute(x, inner)
                steps.append(((i, which, k), self.stand(some)))
        return steps

    def execute(self, x, statement):
        word = statement[0]
        others = [y for y in sorted(self.marks) if y != x]
        if word == "mark":
            self.marks[x] = statement[1][self.marks[x]]
        elif word == "marks":
            chosen = [y for y in others if self.holds(statement[1], x, y, 0)]
            for y in chosen:
                self.marks[y] = statement[2][self.marks[y]]
        elif word == "notes":
            chosen = [y for y in others if self.holds(statement[1], x, y, 0)]
            for y in chosen:
                self.notes[x, y] = statement[2][self.notes[x, y]]
                self.notes[y, x] = statement[3][self.notes[y, x]]
        else:
            self.move(x, *statement)

    def move(self, x, word, number, test=None):
        row = self.rows[number]
        side_row = None if len(self.rows) == 1 else 1 - number
        at = row.index(x)
        ahead, behind = row[:at], row[at + 1:]
        if word == "first":
            row[:] = [x] + ahead + behind
        elif word == "last":
            row[:] = ahead + behind + [x]
        elif word == "up":
            row[:] = ahead[:-1] + [x] + ahead[-1:] + behind
        elif word == "down":
            row[:] = ahead + behind[:1] + [x] + behind[1:]
        elif word == "pass":
            passed = []
            while ahead and self.holds(test, x, ahead[-1], side_row):
                passed.insert(0, ahead.pop())
            row[:] = ahead + [x] + passed + behind
        elif word == "yield":
            while behind and self.holds(test, x, behind[0], side_row):
                ahead.append(behind.pop(0))
            row[:] = ahead + [x] + behind
        elif word == "leap":
            chosen = [y for y in ahead if self.holds(test, x, y, side_row)]
            if chosen:
                rest = ahead + behind
                rest.insert(rest.index(chosen[0]), x)
                row[:] = rest
        else:
            assert word == "fall"
            chosen = [y for y in behind if self.holds(test, x, y, side_row)]
            if chosen:
                rest = ahead + behind
                rest.insert(rest.index(chosen[-1]) + 1, x)
                row[:] = rest


def done(book, run, some=None):
    """The world behind a run and the steps of each of its tuples, cut to some things."""
    world = World(book)
    return world, [world.do(deed, x, some) for deed, x in run]


def wrong_at(book, run):
    """(index, name of the error, tuple) of the first tuple that cannot be done, or None."""
    world = World(book)
    for index, (deed, x) in enumerate(run):
        name = world.bar(deed, x)
        if name:
            return index, name, (deed, x)
        world.do(deed, x)
    return None


def tuples_at(world, things):
    """The tuples that can be done, ascending."""
    return [(deed, x) for deed in range(-1, len(world.book[4])) for x in sorted(things)
            if world.bar(deed, x) is None]


def bothered_at(book, run, some):
    """As the document has it, each beginning of the run looked at anew."""
    for index in range(len(run)):
        part = run[:index + 1]
        x = part[-1][1]
        steps = done(book, part, some)[1][-1]
        world, alone = done(book, [one for one in part if one[1] in some])
        wanted = alone[-1] if x in some else [(place, world.stand()) for place, _ in steps]
        for at in range(max(len(steps), len(wanted))):
            if steps[at:at + 1] != wanted[at:at + 1]:
                return (index, at)
    return None


def sets_of(things):
    """The sets of one or two of the things, as ascending tuples, ascending."""
    things = sorted(things)
    return sorted([(x,) for x in things] + [(x, y) for x in things for y in things if x < y])


def first_bother(book, run):
    for index in range(len(run)):
        part = run[:index + 1]
        for some in sets_of({x for _, x in part}):
            found = bothered_at(book, part, some)
            if found is not None:
                assert found[0] == index
                return (index, some, found[1])
    return None


def pools_of(book):
    pools = [((0, 0), (0, 1), (0, 2)), ((0, 0), (0, 1), (1, 0)), ((0, 0), (1, 0), (1, 1)), ((1, 0), (1, 1), (1, 2))]
    return pools if len(book[0]) == 2 else pools[:1]


def stands_of(book, things):
    """Tuples (stand, run) by looking at all runs of one length, in their order, for each length."""
    found = {World(book).stand(): []}
    layer = [(World(book), [])]
    while layer:
        following = []
        for world, run in layer:
            for one in tuples_at(world, things):
                other = copy.deepcopy(world)
                other.do(*one)
                if other.stand() not in found:
                    found[other.stand()] = run + [one]
                    following.append((other, run + [one]))
        layer = sorted(following, key=lambda pair: pair[1])
    return list(found.items())


def bother_at_end(book, run):
    """The least set of one or two things that the last tuple bothers, and the step, if no tuple before bothers any."""
    world, steps = done(book, run)
    x = run[-1][1]
    for some in sets_of({y for _, y in run}):
        alone, alone_steps = done(book, [one for one in run if one[1] in some])
        shown = [(place, World.cut(stand, some)) for place, stand in steps[-1]]
        wanted = alone_steps[-1] if x in some else [(place, alone.stand()) for place, _ in shown]
        for at in range(max(len(shown), len(wanted))):
            if shown[at:at + 1] != wanted[at:at + 1]:
                return (some, at)
    return None


def bother_within(book, most):
    """The least of the shortest bothers, of runs of the pools of at most so many tuples; all are looked at."""
    layers = [[(pool, []) for pool in pools_of(book)]]
    for _ in range(most):
        following = []
        for pool, run in layers[-1]:
            following += [(pool, run + [one]) for one in tuples_at(done(book, run)[0], pool)]
        found = [(run, *bother_at_end(book, run)) for _, run in following if bother_at_end(book, run)]
        if found:
            return min(found)
        layers.append(following)
    return None


def bother_of(book):
    """The same, of whatever length: of all runs to one stand only the first one is gone on from."""
    layer = [(pool, []) for pool in pools_of(book)]
    seen = set()
    while layer:
        following = []
        for pool, run in layer:
            following += [(pool, run + [one]) for one in tuples_at(done(book, run)[0], pool)]
        found = [(run, *bother_at_end(book, run)) for _, run in following if bother_at_end(book, run)]
        if found:
            return min(found)
        layer = []
        for pool, run in sorted(following):
            stand = done(book, run)[0].stand()
            if (pool, stand) not in seen:
                seen.add((pool, stand))
                layer.append((pool, run))
    return None


# Machines.

def ok_machine(value):
    try:
        begins, points, moves = value
        assert type(value) is type(begins) is type(points) is type(moves) is tuple
        assert len(begins) in (1, 2) and len(points) >= 1 and len(points) == len(moves)
        rows = {len(stands) for stands, _, _ in points}
        assert len(rows) == 1 and rows <= {1, 2}
        for point in points:
            stands, live, label = point
            assert type(point) is type(stands) is type(label) is tuple and ok_int(live, 1, 3)
            for stand in stands:
                rank, way, at = stand
                assert type(stand) is tuple and type(way) is str and way in ("later", "earlier")
                assert type(rank) is int and rank >= 0 and ok_int(at, 0, live - 1)
        for row in range(max(rows)):
            for one in points:
                for other in points:
                    if one[0][row][0] == other[0][row][0]:
                        assert one[0][row][1] == other[0][row][1]
        assert all(ok_int(point, 0, len(points) - 1) and points[point][1] == 1 for point in begins)
        assert all(type(move) is tuple and len(move) == len(moves[0]) <= 5 for move in moves)
        arrows = []
        for point, move in enumerate(moves):
            for entry in move:
                if entry is None:
                    continue
                behind, take = entry
                assert type(entry) is type(take) is tuple and ok_int(behind, 0, len(points) - 1)
                assert len(take) == points[behind][1]
                assert all(ok_int(k, -1, points[point][1] - 1) for k in take)
                order = [k if k >= 0 else 100 for k in take]
                assert order == sorted(set(order))
                arrows.append((point, behind))
        if any(label != () for _, _, label in points):
            for _, _, label in points:
                kind, mark = label
                assert ok_int(kind, 0, len(begins) - 1) and type(mark) is int and mark >= 0
            assert all(points[point][2][0] == kind for kind, point in enumerate(begins))
            assert all(points[one][2][0] == points[other][2][0] for one, other in arrows)
        return True
    except (AssertionError, TypeError, ValueError, KeyError):
        return False


def figure_behind(machine, kind, moments):
    """The figure of a thing that came and did deeds, as tuples (deed, moment), or None."""
    begins, _, moves = machine
    point, times = begins[kind], (moments[0][1],)
    for deed, now in moments[1:]:
        entry = moves[point][deed - 1]
        if entry is None:
            return None
        point, times = entry[0], tuple(now if k == -1 else times[k] for k in entry[1])
    return point, times


def figures_behind(machine, run):
    """The figures behind a run, or the index of the first tuple that is not let."""
    pasts = {}
    for now, (deed, x) in enumerate(run):
        if (deed == 0) == (x in pasts):
            return now
        if deed == -1:
            del pasts[x]
        else:
            pasts.setdefault(x, []).append((deed, now))
            if figure_behind(machine, x[0], pasts[x]) is None:
                return now
    return [(x, figure_behind(machine, x[0], pasts[x])) for x in sorted(pasts)]


def is_ahead(machine, row, one, other):
    rank, way, at = machine[1][one[0]][0][row]
    other_rank, _, other_at = machine[1][other[0]][0][row]
    if rank != other_rank:
        return rank < other_rank
    if way == "later":
        return one[1][at] > other[1][other_at]
    return one[1][at] < other[1][other_at]
