"""Watches: small machines that tell which of the rows on the ways of a large machine are looked for."""

# The states of `beyond_watch` before the left side of a rule and behind it.
BEGUN = 0
DONE = 1


class Watch:
    """States, the first one 0; `follows` tells by state, sign and height which states come next."""

    def __init__(self, follows, accepted):
        self.follows = follows
        self.accepted = accepted


def row_watch(row):
    """Return a watch for this row."""
    follows = {(at, sign, height): [at + 1] for at, (sign, height) in enumerate(row)}
    return Watch(follows, [len(row)])


def lot_watch(lot, most):
    """Return a watch for the rows whose signs are a text of the lot."""
    heights = list(range(most + 1))
    follows = {(state, sign, height): [to] for state, sign, to in lot.moves for height in heights}
    return Watch(follows, lot.last)


def stray_watch(lot, signs, most):
    """Return a watch for the rows over the signs that are not a text of the lot."""
    heights = list(range(most + 1))
    leads = {(state, sign): to for state, sign, to in lot.moves}
    # One more state for the beginnings that no text of the lot has.
    strayed = lot.states
    states = list(range(lot.states + 1))
    follows = {}
    for state in states:
        for sign in signs:
            to = leads.get((state, sign), strayed)
            for height in heights:
                follows[(state, sign, height)] = [to]
    last = lot.last
    return Watch(follows, [state for state in states if state not in last])


def beyond_watch(rules, signs, most):
    """Return a watch for the rows over the signs from which a step writes a height above the bound."""
    follows = {}
    for sign in signs:
        for height in range(most + 1):
            follows[(BEGUN, sign, height)] = [BEGUN]
            follows[(DONE, sign, height)] = [DONE]
    unused = DONE + 1
    for rule in rules:
        if rule.right:
            inner = list(range(unused, unused + len(rule.left) - 1))
            unused = unused + len(inner)
            stops = [BEGUN] + inner + [DONE]
            for at, sign in enumerate(rule.left):
                follows.setdefault((stops[at], sign, most), []).append(stops[at + 1])
    return Watch(follows, [DONE])
