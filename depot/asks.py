"""Stock and asks: whether asks can be kept, how, and what is free beside them."""


def rest(stock, asks, day):
    lies = sum([amount for due, amount in stock if due >= day])
    return lies - sum([amount for asked, amount in asks if asked >= day])


def short_days(stock, asks):
    return [day for day, amount in asks if rest(stock, asks, day) < 0]


def keepable(stock, asks):
    return len(short_days(stock, asks)) == 0


def short_day(stock, asks):
    return max(short_days(stock, asks), default=None)


def free(stock, asks, day):
    if not keepable(stock, asks):
        return 0
    # More that is asked for a day lessens the rest of that day and of each one ahead of it, of no later one.
    return min([rest(stock, asks, day)] + [rest(stock, asks, asked) for asked, amount in asks if asked <= day])


# What it gives is taken off left, so that no later ask has it again.
def given(stock, left, day, wanted):
    pairs = []
    for place, pair in enumerate(stock):
        grains = min(left[place], wanted) if pair[0] >= day else 0
        if grains > 0:
            pairs.append((place, grains))
            left[place] -= grains
            wanted -= grains
    return pairs


def shares(stock, asks):
    if not keepable(stock, asks):
        return None
    left = [amount for due, amount in stock]
    rows = []
    # Later days first: whatever grain an ask can have, an ask of an earlier day could have as well, so the ones
    # still to come lose as much whichever grain it is.
    for ask in sorted(range(len(asks)), key=lambda number: -asks[number][0]):
        pairs = given(stock, left, asks[ask][0], asks[ask][1])
        rows.extend([(ask, place, amount) for place, amount in pairs])
    return sorted(rows)
