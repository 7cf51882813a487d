"""How long to wait for pieces that come late."""

UNREST_PART = 16
UNREST_HALF = 8


def delays_of(rows):
    return [came - sent for sent, came in rows]


def late(rows, wait):
    return len([delay for delay in delays_of(rows) if delay > wait])


def least_wait(rows, many):
    # With less than none allowed there is no such wait either.
    if many < 0 or many >= len(rows):
        return None
    return sorted(delays_of(rows), reverse=True)[many]


def unrest(rows):
    delays = delays_of(rows)
    told = 0
    for k in range(1, len(delays)):
        told = told + abs(delays[k] - delays[k - 1]) - (told + UNREST_HALF) // UNREST_PART
    return told


def step_cost(waits, wait, change):
    return change * abs(wait - waits[-1]) if waits else 0


def cheapest_with(plans, wait, own_cost, change):
    longer = [(cost + step_cost(waits, wait, change), waits) for cost, waits in plans]
    best = min(longer)
    return (best[0] + own_cost, best[1] + (wait,))


def plan(talks, fee, change, most):
    # For each wait of the last talk only the cheapest plan is kept: what follows depends on that wait alone.
    plans = [(0, ())]
    for rows in talks:
        # No wait lies below 0, so a most below it leaves 0 alone.
        plans = [cheapest_with(plans, wait, wait + fee * late(rows, wait), change)
                 for wait in range(max(most, 0) + 1)]
    return min(plans)
