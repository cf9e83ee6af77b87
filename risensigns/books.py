"""Rules, books of rules, and books that get a rule on trial."""

from risensigns.checks import GREATEST_BOUND, GREATEST_HEIGHT, check_bound, check_height, check_text, decoded
from risensigns.errors import BadHeight, BadLine, BadRule, BadSign, Beyond, BookFull, Mismatch, NoRule
from risensigns.rows import Row

MOST_SIGNS = 4
MOST_RULES = 6


class Rule:
    """A rule that replaces its left side by its right side."""

    def __init__(self, left, right=""):
        check_text(left)
        check_text(right)
        if not left or len(left) > MOST_SIGNS or len(right) > MOST_SIGNS:
            raise BadRule("a rule has 1 to 4 signs on the left and at most 4 on the right")
        self.left = left
        self.right = right

    def __str__(self):
        return f"{self.left}:{self.right}"

    def __call__(self, row, at=0):
        return _stepped(self, row, at, GREATEST_HEIGHT)


class Book:
    """A sequence of at most 6 rules, numbered from 0."""

    def __init__(self, *rules):
        if len(rules) > MOST_RULES:
            raise BookFull("a book has at most 6 rules")
        # A tuple, so that a trial can keep it: each change of the book makes a new one.
        self._rules = tuple(rules)

    @classmethod
    def read(cls, text):
        """Return a new book with the rules of a written form."""
        written = decoded(text)
        if not written:
            return cls()
        lines = written.split("\n")
        rules = [_read_rule(line, number) for number, line in enumerate(lines, start=1)]
        return cls(*rules)

    @property
    def signs(self):
        """The signs of the rules, each once, in alphabetical order."""
        sides = [rule.left + rule.right for rule in self._rules]
        return "".join(sorted(set("".join(sides))))

    @property
    def longest(self):
        """The number of signs of the longest right side, and 0 without rules."""
        return max([len(rule.right) for rule in self._rules], default=0)

    def __len__(self):
        return len(self._rules)

    def __iter__(self):
        return iter(self._rules)

    def __iadd__(self, rule):
        self.add(rule)
        return self

    def add(self, rule):
        """Append the rule to the book itself."""
        if len(self._rules) == MOST_RULES:
            raise BookFull("a book has at most 6 rules")
        self._rules = self._rules + (rule,)

    def drop(self, number):
        """Remove the rule with this number from the book itself and return it."""
        dropped = self._numbered(number)
        self._rules = self._rules[:number] + self._rules[number + 1:]
        return dropped

    def written(self):
        """Return the written form, one line per rule."""
        return "\n".join([str(rule) for rule in self._rules])

    def data(self):
        """Return the written form as bytes."""
        return self.written().encode("ascii")

    def steps(self, row):
        """Yield the steps of the row, by place and then by number."""
        signs = row.signs
        for at in range(len(signs)):
            for number, rule in enumerate(self._rules):
                if _fits(rule, signs, at):
                    yield (number, at)

    def take(self, row, number, at, *, most=GREATEST_HEIGHT):
        """Return the new row after a step that writes no height above `most`."""
        check_bound(most, GREATEST_HEIGHT)
        return _stepped(self._numbered(number), row, at, most)

    def weight(self, row, *, most):
        """Return the weight of the row, which each step within the bound lowers."""
        check_bound(most, GREATEST_HEIGHT)
        top = abs(row)
        if top > most:
            raise BadHeight(top)
        powers = self._powers()
        return sum([powers[most - height] for height in row.heights])

    def limit(self, many, *, most):
        """Return the weight of a text of so many signs with all heights 0."""
        check_bound(most, GREATEST_HEIGHT)
        return many * self._powers()[most]

    def growths(self, sign):
        """Yield the growths of the sign, by number and then by place."""
        for number, rule in enumerate(self._rules):
            for at, found in enumerate(rule.left):
                if found == sign:
                    yield (number, at)

    def grown(self, sign, *, most, height=0):
        """Return the size of the sign at the height within the bound."""
        check_bound(most, GREATEST_BOUND)
        check_height(height, most)
        sizes = self._sizes_at_bound()
        for _ in range(most - height):
            sizes = self._sizes_below(sizes)
        return sizes.get(sign, 1)

    def _numbered(self, number):
        if not 0 <= number < len(self._rules):
            raise NoRule(number)
        return self._rules[number]

    def _powers(self):
        base = self.longest + 1
        return [base ** power for power in range(10)]

    def _sizes_at_bound(self):
        """Return the sizes of the signs where only empty right sides count."""
        erasing = [rule for rule in self._rules if not rule.right]
        return self._summed(erasing, {})

    def _sizes_below(self, above):
        """Return the sizes of the signs one height below the given sizes."""
        return self._summed(self._rules, above)

    def _summed(self, rules, above):
        sizes = {sign: 1 for sign in self.signs}
        for rule in rules:
            growth = len(rule.left) - 1 + sum([above[sign] for sign in rule.right])
            for sign in rule.left:
                sizes[sign] = sizes[sign] + growth
        return sizes


class Trial:
    """A context manager in which a book has one more rule."""

    def __init__(self, book, rule):
        self._book = book
        self._rule = rule
        self._kept = ()

    def __enter__(self):
        kept = self._book._rules
        self._book.add(self._rule)
        self._kept = kept
        return self._book

    def __exit__(self, kind, value, trace):
        book = self._book
        book._rules = self._kept
        return False


def _fits(rule, signs, at):
    # An index below 0 would be counted from the end.
    return at >= 0 and signs.startswith(rule.left, at)


def _stepped(rule, row, at, most):
    """Return the new row after a step of the rule that writes no height above `most`."""
    if not _fits(rule, row.signs, at):
        raise Mismatch(at)
    end = at + len(rule.left)
    height = 1 + min(row.heights[at:end])
    if rule.right and height > most:
        raise Beyond(height)
    stepped = row[0:len(row)]
    stepped[at:end] = Row(rule.right, [height] * len(rule.right))
    return stepped


def _read_rule(line, number):
    """Return the rule of a line; the lines are counted from 1."""
    sides = line.split(":")
    if len(sides) != 2:
        raise BadLine(number)
    try:
        return Rule(sides[0], sides[1])
    except (BadSign, BadRule) as why:
        raise BadLine(number) from why
