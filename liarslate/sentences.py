"""The four sentences on one letter: by which numbers of hands, liars and counts each can be broken (section 7)."""

SENTENCES = ("all", "heard", "one", "own")


def can_break_one(n, t, counts):
    """Whether liars can bring two honest hands to take unlike values."""
    e, r, d = counts
    return t >= 1 and (d <= t or 2 * d <= n + t and (r <= t or 2 * e <= n + t))


def can_break_own(n, t, counts):
    """Whether liars can bring an honest hand to take what an honest first one did not say."""
    e, r, d = counts
    # By e = 1 the first one promises its own value at once: its promise can't be brought to another one any more.
    most = n - 1 if e == 1 else n
    return t >= 1 and (d <= t or d <= most and (e <= t or r <= t))


def can_break_heard(n, t, counts):
    """Whether liars can keep an honest hand from taking what an honest first one said."""
    return max(counts[0], counts[2]) > n - t or min(counts) <= t


# The rows of "all", for t from 1 on.


def is_taken_by_lies(n, t, counts):
    """Whether liars alone bring a hand to take, ahead of its promising anything."""
    _, r, d = counts
    return d <= t and r > d


def is_promised_by_few(n, t, counts):
    """Whether some hands can promise alone, too few to move others, enough to take with the liars."""
    e, r, d = counts
    return max(1, d - t) < min(d, r, n - t) and (r <= t or e <= n)


def is_promised_unlike(n, t, counts):
    """Whether liars' promises can bring all to promise so unlike that nobody takes without the liars."""
    e, r, d = counts
    return 2 <= d <= n and r <= t and (e <= n or d >= r + 2)


def is_echoed_unlike(n, t, counts):
    """Whether liars' echoes can bring all to promise so unlike that nobody takes without the liars."""
    e, r, d = counts
    h = n - t
    values = h if e <= t else h // (e - t)
    return 2 <= d <= n and r > t and h <= (d - 1) * values


def can_break_all(n, t, counts):
    """Whether liars can bring one honest hand to take something, and another one to take nothing ever."""
    if t < 1:
        return False
    if is_taken_by_lies(n, t, counts) or is_promised_by_few(n, t, counts):
        return True
    return is_promised_unlike(n, t, counts) or is_echoed_unlike(n, t, counts)


ROWS = {"all": can_break_all, "heard": can_break_heard, "one": can_break_one, "own": can_break_own}


def can_break(n, t, counts, sentence):
    """Whether this sentence can be broken."""
    row = ROWS[sentence]
    return row(n, t, counts)
