"""Words of two scores that are kept short: by rows of letters and of further rows, however long they are.

A row is a list of pairs (symbol, many): a symbol from 0 on is a letter, so many times; one below 0 names a row.
A row with TURNS above 1 names the same row twice: what stands behind the first of these, up to the second one and
with it, is there TURNS times. Except while a lap is made, no row but the two tops reads as less than two unlike
letters, and none is a single symbol.
"""


def push(row, symbol, many):
    """Puts a symbol behind a row; letters side by side that are alike are kept as one."""
    if symbol >= 0 and row and row[-1][0] == symbol:
        row[-1] = (symbol, row[-1][1] + many)
    else:
        row.append((symbol, many))


def push_all(row, more):
    """Puts a further row behind a row."""
    for symbol, many in more:
        push(row, symbol, many)


class Fold:
    """Two words by rows, and what the letters in them stand for."""

    def __init__(self):
        self.rows = {}
        self.turns = {}
        # Each row stands behind those that it names.
        self.order = []
        self.tops = []
        # For each letter the row that it stands for, or (PITCH, LONG) of a first one; and how many ticks it lasts.
        self.meanings = []
        self.ticks = []
        self.firsts = 0

    def put_row(self, row, turns):
        """Puts a further row there; its symbol."""
        symbol = -1 - len(self.turns)
        self.rows[symbol] = row
        self.turns[symbol] = turns
        self.order.append(symbol)
        return symbol

    def put_letter(self, meaning, ticks):
        """Puts a further letter there; its number."""
        self.meanings.append(meaning)
        self.ticks.append(ticks)
        return len(self.meanings) - 1

    def put_run(self, letter, many):
        """A letter that stands for so many of a letter."""
        return self.put_letter([(letter, many)], self.ticks[letter] * many)

    def put_pair(self, left, right):
        """A letter that stands for two unlike ones."""
        return self.put_letter([(left, 1), (right, 1)], self.ticks[left] + self.ticks[right])

    def are_single(self):
        """Whether both words are single letters."""
        return all([is_single(self.rows[top]) for top in self.tops])

    def are_same(self):
        """Whether both words are kept by one and the same row."""
        return self.rows[self.tops[0]] == self.rows[self.tops[1]]

    def repeated(self, head, body, many, tail):
        """The row of letters head, body (at least one) so many times, tail, and its TURNS."""
        row = list(head)
        if many == 1 or len(body) == 1:
            push_all(row, [(symbol, count * many) for symbol, count in body])
            push_all(row, tail)
            return row, 1
        part = self.put_row(body, 1)
        return row + [(part, 1), (part, 1)] + tail, many - 1

    def settle(self):
        """Puts what rows that have become short read as where they are named."""
        short, before = {}, list(self.order)
        self.order = []
        for symbol in before:
            row = self.rows[symbol]
            if any([part in short for part, _ in row]):
                self.spell_out(symbol, short)
            row = self.rows[symbol]
            if len(row) <= 1 and symbol not in self.tops:
                short[symbol] = row
                del self.rows[symbol]
            else:
                self.order.append(symbol)

    def spell_out(self, symbol, short):
        """Puts short rows into a row in the place of their names."""
        row, turns = self.rows[symbol], self.turns[symbol]
        if turns > 1:
            self.rows[symbol], self.turns[symbol] = self.spelled_turns(row, turns, short)
            return
        spelled = []
        for part, many in row:
            push_all(spelled, short.get(part, [(part, many)]))
        self.rows[symbol] = spelled

    def spelled_turns(self, row, turns, short):
        """The same of a row with TURNS, that names a short one: a row and its TURNS."""
        start, end = [at for at, (part, _) in enumerate(row) if part < 0]
        head, between, tail = row[:start], row[start + 1:end], row[end + 1:]
        inner = short[row[start][0]]
        if inner and inner[0][0] < 0:
            return head + inner + between + inner + tail, turns
        first, body = list(head), list(between)
        push_all(first, inner)
        push_all(body, inner)
        return self.repeated(first, body, turns, tail)


def is_single(row):
    """Whether a row is a single letter."""
    return len(row) == 1 and row[0][0] >= 0 and row[0][1] == 1
