"""Sums and products of point rows, with any number of pairs, that are known to be point rows."""

from samegaps.pairs import multiple_of, row_of


def letters_of(points):
    """How many letters the POINTs have, 0 for ()."""
    return len(points[0][0]) if points else 0


def point_sum(one, other):
    """The sum of two POINTs, letter by letter."""
    return tuple([letter + more for letter, more in zip(one, other)])


def point_back(point):
    """The POINT with all its letters' signs changed."""
    return tuple([-letter for letter in point])


def noughts(letters):
    """The POINT of so many letters that are all 0."""
    return (0,) * letters


def points_moved(points, shift):
    """The point row with the shift, a POINT, added to all its POINTs."""
    return tuple([(point_sum(point, shift), weight) for point, weight in points])


def points_back(points):
    """The point row mirrored."""
    return tuple([(point_back(point), weight) for point, weight in points[::-1]])


def points_times(points, other):
    """The product of both."""
    weights = {}
    for point, weight in points:
        for far, more in other:
            at = point_sum(point, far)
            weights[at] = weights.get(at, 0) + weight * more
    return row_of(weights)


def point_gaps(points):
    """The differences of the point row."""
    return points_times(points, points_back(points))


def points_rooted(points):
    """The shifted point row that begins at noughts."""
    return points_moved(points, point_back(points[0][0])) if points else ()


def points_root(points):
    """The point row that is alike with this one, begins at noughts and ends with a weight above 0."""
    if points and points[-1][1] < 0:
        return points_rooted(multiple_of(points, -1))
    return points_rooted(points)


def spreads_of(points):
    """The greatest difference of two POINTs at each letter, () for ()."""
    columns = [[point[at] for point, _ in points] for at in range(letters_of(points))]
    return tuple([max(column) - min(column) for column in columns])


def widest_of(points):
    """The greatest difference of two POINTs at one letter, 0 for ()."""
    return max([0, *spreads_of(points)])


def place_of(point, step):
    """The place of a POINT on the line for the step."""
    place = 0
    for letter in point:
        place = place * step + letter
    return place


def on_line(points, step):
    """The line of a POINT ROW; where places meet the weights are added."""
    weights = {}
    for point, weight in points:
        place = place_of(point, step)
        weights[place] = weights.get(place, 0) + weight
    return row_of(weights)


def point_at(place, step, letters):
    """The POINT with this place, each letter but the first one near 0."""
    behind = []
    left = place
    for _ in range(letters - 1):
        letter = (left + step // 2) % step - step // 2
        left = (left - letter) // step
        behind.append(letter)
    return (left, *behind[::-1])


def off_line(row, step, letters):
    """The POINT ROW of which the row is the line."""
    return tuple([(point_at(place, step, letters), weight) for place, weight in row])
