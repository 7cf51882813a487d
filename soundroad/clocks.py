"""The line nearest under all times of two clocks."""

from soundroad.errors import NoLine


def common_divisor(one, other):
    while other != 0:
        rest = one % other
        one = other
        other = rest
    return one


def fraction(upper, lower):
    divisor = common_divisor(upper, lower)
    return (upper // divisor, lower // divisor)


def bends_up(one, two, three):
    return (two[1] - one[1]) * (three[0] - two[0]) < (three[1] - two[1]) * (two[0] - one[0])


def corners_under(rows):
    lowest = {}
    for sent, came in rows:
        lowest[sent] = min(came, lowest.get(sent, came))
    corners = []
    for sent in sorted(lowest):
        point = (sent, lowest[sent])
        while len(corners) > 1 and not bends_up(corners[-2], corners[-1], point):
            corners.pop()
        corners.append(point)
    return corners


def edge_at_mean(rows):
    # The sum is the least where the line is highest at the mean of all sent: on the edge under it.
    # Where the mean meets a corner, the edge that ends there has the least slope.
    corners = corners_under(rows)
    total = sum([sent for sent, came in rows])
    k = 1
    while corners[k][0] * len(rows) < total:
        k += 1
    return (corners[k - 1], corners[k])


def line_under(rows):
    if len(set([sent for sent, came in rows])) < 2:
        raise NoLine("a line needs rows with two unlike times of sending")
    edge = edge_at_mean(rows)
    start = edge[0]
    run = edge[1][0] - start[0]
    rise = edge[1][1] - start[1]
    return (fraction(rise, run), fraction(start[1] * run - rise * start[0], run))


def height_above(line, sent, came):
    slope = line[0]
    height = line[1]
    upper = came * slope[1] * height[1] - slope[0] * sent * height[1] - height[0] * slope[1]
    # Rounding the turned sign down rounds up.
    return -(-upper // (slope[1] * height[1]))


def straight(rows):
    line = line_under(rows)
    return tuple([height_above(line, sent, came) for sent, came in rows])
