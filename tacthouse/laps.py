"""LAPS over the two words of a Fold, made by its rows alone.

Where letters that become one stand on either side of the joint of two rows, they are first taken out of these rows,
wherever the rows are named; then what becomes one stands within one row.
"""

from tacthouse.fold import push


def row_ends(fold):
    """For each symbol of a row its first letter and its last one."""
    ends = {}
    for symbol in fold.order:
        row = fold.rows[symbol]
        first, last = row[0][0], row[-1][0]
        ends[symbol] = (first if first >= 0 else ends[first][0], last if last >= 0 else ends[last][1])
    return ends


def joints(fold):
    """How often each pair of letters stands side by side in the words: a dict by (left, right).

    Of alike letters side by side it may tell less often.
    """
    ends = row_ends(fold)
    counts, uses = {}, {symbol: 0 for symbol in fold.order}
    for top in fold.tops:
        uses[top] += 1
    for symbol in reversed(fold.order):
        names, before, outer = 0, None, uses[symbol]
        inner = outer * fold.turns[symbol]
        for part, many in fold.rows[symbol]:
            often = inner if names == 1 else outer
            first, last = part, part
            if part < 0:
                first, last = ends[part]
                uses[part] += often
                names += 1
            if before is not None:
                counts[(before, first)] = counts.get((before, first), 0) + often
            if many > 1:
                counts[(part, part)] = counts.get((part, part), 0) + often
            before = last
    return counts


def is_crossing(last, first, left):
    """Whether letters on the two sides of a joint become one: by runs if left is None, else by pairs."""
    if left is None:
        return last == first
    return last in left and first not in left


def open_rows(fold, left):
    """Two dicts of the rows whose first, and whose last letters have to be taken out."""
    ends = row_ends(fold)
    fronts, backs = {}, {}
    for symbol in fold.order:
        before, last = 0, None
        for part, _ in fold.rows[symbol]:
            if last is not None and (part < 0 or before < 0):
                first = ends[part][0] if part < 0 else part
                if is_crossing(last, first, left):
                    backs[before], fronts[part] = True, True
            before, last = part, ends[part][1] if part < 0 else part
    # What is taken out of a row that begins with a name is taken out of the named row first.
    for symbol in reversed(fold.order):
        row = fold.rows[symbol]
        if symbol in fronts:
            fronts[row[0][0]] = True
        if symbol in backs:
            backs[row[-1][0]] = True
    return fronts, backs


def take_out(row, at, whole):
    """Takes the letter at one end out of a row, or the whole run there; what was taken out."""
    letter, many = row[at]
    if whole or many == 1:
        del row[at]
        return (letter, many)
    row[at] = (letter, many - 1)
    return (letter, 1)


def open_joints(fold, left):
    """Takes all letters out of rows that become one with a letter of another row."""
    fronts, backs = open_rows(fold, left)
    if not fronts:
        return
    first, last = {}, {}
    for symbol in fold.order:
        row = []
        for part, many in fold.rows[symbol]:
            if part in first:
                push(row, first[part][0], first[part][1])
            push(row, part, many)
            if part in last:
                push(row, last[part][0], last[part][1])
        if symbol in fronts:
            first[symbol] = take_out(row, 0, left is None)
        if symbol in backs:
            last[symbol] = take_out(row, -1, left is None)
        fold.rows[symbol] = row


def make_runs(fold):
    """The LAP ("runs",)."""
    open_joints(fold, None)
    runs = sorted({run for row in fold.rows.values() for run in row if run[1] > 1})
    letters = {}
    for run in runs:
        letters[run] = fold.put_run(run[0], run[1])
    for symbol in fold.order:
        fold.rows[symbol] = [(letters[run], 1) if run in letters else run for run in fold.rows[symbol]]
    fold.settle()


def make_pairs(fold, left):
    """The LAP ("pairs", LEFT), LEFT being the keys of a dict."""
    open_joints(fold, left)
    found = {}
    for row in fold.rows.values():
        for at in range(len(row) - 1):
            if row[at][0] in left and row[at + 1][0] >= 0 and row[at + 1][0] not in left:
                found[(row[at][0], row[at + 1][0])] = True
    letters = {}
    for pair in sorted(list(found)):
        letters[pair] = fold.put_pair(pair[0], pair[1])
    for symbol in fold.order:
        fold.rows[symbol] = with_pairs(fold.rows[symbol], letters)
    fold.settle()


def with_pairs(row, letters):
    """A row in which each of some pairs, none of which have a letter in common, has become one letter."""
    made, waiting = [], None
    for part, many in row:
        pair = (waiting, part)
        if pair in letters:
            take_out(made, -1, False)
            push(made, letters[pair], 1)
            many -= 1
        if many:
            push(made, part, many)
        waiting = part
    return made


def make_lap(fold, lap):
    """A LAP over the words of a Fold."""
    if lap[0] == "runs":
        make_runs(fold)
    else:
        make_pairs(fold, {letter: True for letter in lap[1]})
