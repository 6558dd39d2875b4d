"""Values made of forms: a smallest one, and samples that tell the whole form.

A value comes here as a pair (parts, value), parts being how many it has. What is held in it may stand at several
places, so that lists of very many parts cost little; what is told is a copy, in which nothing stands twice."""

from leastform.errors import NoValue
from leastform.forms import MOST_FIELDS
from leastform.runs import telling_numbers
from leastform.values import copied
from leastform.words import words_some, words_texts

MOST_PARTS = 5000

# So many parts more than it must have a sample may hold, if that makes the samples fewer.
ROOM = 400


def parts_of(pair):
    return pair[0]


def listed(items):
    return (1 + sum([item[0] for item in items]), [item[1] for item in items])


def named(row):
    return (1 + sum([row[name][0] for name in row]), dict([(name, row[name][1]) for name in row]))


def list_filled(items, small, many):
    return listed(items + [small] * (many - len(items)))


# By name the smallest that may stand there: of a record all names, of a table just many of them.
def smalls_of(part, many):
    if part[0] == "record":
        return dict([(field[0], smallest(field[2])) for field in part[3]])
    names = words_some(part[3], many)
    small = smallest(part[4])
    return dict([(name, small) for name in names])


def musts_of(part):
    return [field[0] for field in part[3] if field[1]] if part[0] == "record" else []


# The smallest dict of a record or table that has what is chosen, hasn't the name left out, and has many names, if no
# more must be there.
def dict_filled(part, smalls, chosen, left_out, many):
    row = dict(chosen)
    for name in musts_of(part):
        row.setdefault(name, smalls[name])
    for name in sorted(smalls, key=lambda held: parts_of(smalls[held])):
        if len(row) < many and name != left_out:
            row.setdefault(name, smalls[name])
    return named(row)


def leaf_values(part):
    if part[0] == "truths":
        return list(part[1])
    if part[0] == "numbers":
        return sorted(set(telling_numbers(part[1:])))
    if part[0] == "texts":
        return words_texts(part[1])
    return [None]


def part_smallest(part):
    if part[0] == "lists":
        return list_filled([], smallest(part[3]) if part[1] > 0 else None, part[1])
    if part[0] == "record" or part[0] == "table":
        return dict_filled(part, smalls_of(part, part[1]), {}, None, part[1])
    return (1, leaf_values(part)[0])


def smallest(form):
    if form == ():
        raise NoValue("the form lets nothing by")
    return min([part_smallest(part) for part in form], key=parts_of)


def made(form):
    return copied(smallest(form)[1])


# Rows of at most most items, which with small ones for those that lack to least have at most room parts more than
# a row of small ones alone, but where one item by itself has.
def packed(items, least, most, small, room):
    rows = []
    row = []
    parts = 0
    for item in items:
        filled = parts + item[0] + small[0] * max(least - len(row) - 1, 0)
        if len(row) == most or (len(row) > 0 and filled > small[0] * least + room):
            rows.append(row)
            row = []
            parts = 0
        row.append(item)
        parts = parts + item[0]
    rows.append(row)
    return rows


def list_samples(part, room):
    least = part[1]
    most = part[2]
    if most == 0:
        return [listed([])]
    small = smallest(part[3])
    rows = packed(form_samples(part[3], room), least, most, small, room)
    filled = [list_filled(row, small, least) for row in rows]
    return filled + [list_filled([], small, least), list_filled([], small, most)]


# The names by turns, going on from row to row, so that all come, and none twice in a row.
def names_given(rows, names):
    pairs = []
    place = 0
    for row in rows:
        chosen = {}
        for item in row:
            chosen[names[place % len(names)]] = item
            place = place + 1
        pairs.append(named(chosen))
    return pairs


# With names enough that no record has all of them, and among these some that tell the make.
def table_samples(part, room):
    most = part[2]
    names = sorted(set(words_texts(part[3]) + words_some(part[3], max(most, MOST_FIELDS + 1))))
    small = smallest(part[4])
    items = form_samples(part[4], room)
    items = items + [small] * (len(names) - len(items))
    rows = packed(items, part[1], most, small, room)
    filled = [row + [small] * (part[1] - len(row)) for row in rows]
    return names_given(filled + [[small] * part[1], [small] * most], names)


# Takes of what waits by name as much as one dict may hold; a first one in any case.
def row_taken(part, smalls, waiting, most_parts):
    chosen = {}
    for field in part[3]:
        line = waiting[field[0]]
        if len(line) > 0:
            more = dict(chosen)
            more[field[0]] = line[-1]
            filled = dict_filled(part, smalls, more, None, part[1])
            if len(chosen) == 0 or (len(filled[1]) <= part[2] and filled[0] <= most_parts):
                line.pop()
                chosen = more
    return chosen


def record_rows(part, smalls, room):
    waiting = dict([(field[0], form_samples(field[2], room)) for field in part[3]])
    most_parts = dict_filled(part, smalls, {}, None, part[1])[0] + room
    rows = []
    chosen = row_taken(part, smalls, waiting, most_parts)
    while len(chosen) > 0:
        rows.append(dict_filled(part, smalls, chosen, None, part[1]))
        chosen = row_taken(part, smalls, waiting, most_parts)
    return rows


def record_samples(part, room):
    smalls = smalls_of(part, part[1])
    fewest = dict_filled(part, smalls, {}, None, part[1])
    rows = record_rows(part, smalls, room) + [fewest, dict_filled(part, smalls, {}, None, part[2])]
    for field in part[3]:
        # Told that each name may lack that need not be there: those that stand in the smallest dict.
        if not field[1] and field[0] in fewest[1]:
            rows.append(dict_filled(part, smalls, {}, field[0], part[1]))
    return rows


def part_samples(part, room):
    if part[0] == "lists":
        return list_samples(part, room)
    if part[0] == "record":
        return record_samples(part, room)
    if part[0] == "table":
        return table_samples(part, room)
    return [(1, value) for value in leaf_values(part)]


def form_samples(form, room):
    samples = []
    for part in form:
        samples.extend(part_samples(part, room))
    return samples


def samples_of(form):
    samples = form_samples(form, ROOM)
    # Without room none has more parts than it must.
    if max([sample[0] for sample in samples], default=0) > MOST_PARTS:
        samples = form_samples(form, 0)
    return [copied(sample[1]) for sample in samples]
