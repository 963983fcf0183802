"""All pairs of dice that come to given counts of sums."""

from dicepairs.dice import is_number, need_die
from dicepairs.errors import BadCounts, BadDie, BadNumber
from dicepairs.sums import counts

MOST_PAIR_FACES = 6
GREATEST_SUM = 198


def pairs_of(rows, many, more, least):
    """Return all pairs with the given counts, rising, whose first die has the given least face.

    The dice of a pair have so many and so many faces. Raises BadNumber, BadCounts.
    """
    need_many_faces(many)
    need_many_faces(more)
    need_counts(rows, many * more)
    lowest = rows[0][0]
    if not is_number(least) or not 0 <= least <= lowest:
        raise BadNumber("the least face is a number from 0 to the least sum")
    left = without(dict(rows), [lowest])
    begun = {((least,), (lowest - least,)): left}
    for _ in range(many + more - 2):
        begun = with_a_face_more(begun, many, more)
    return sorted(begun)


def alike(one, other):
    """Return all pairs of as many faces with the same counts, rising; or raise BadDie.

    The first die of each has the least face of the first one.
    """
    need_pair_die(one)
    need_pair_die(other)
    return pairs_of(counts([one, other]), len(one), len(other), min(one))


def need_many_faces(thing):
    """Refuse what is no number of faces that a die of a pair may have, by BadNumber."""
    if not is_number(thing) or not 1 <= thing <= MOST_PAIR_FACES:
        raise BadNumber(f"a die of a pair has 1 to {MOST_PAIR_FACES} faces")


def need_pair_die(thing):
    """Refuse what is no die or has too many faces for a pair, by BadDie."""
    need_die(thing)
    if len(thing) > MOST_PAIR_FACES:
        raise BadDie(f"a die of a pair has at most {MOST_PAIR_FACES} faces")


def need_counts(thing, throws):
    """Refuse what is no counts of so many throws, by BadCounts."""
    if not isinstance(thing, list) or not all([is_row(row) for row in thing]):
        raise BadCounts(f"counts are a list of tuples: a sum from 0 to {GREATEST_SUM}, how often from 1 on")
    totals = [row[0] for row in thing]
    if not all([low < high for low, high in zip(totals, totals[1:])]):
        raise BadCounts("the sums of counts rise")
    if sum([row[1] for row in thing]) != throws:
        raise BadCounts(f"the counts come to {throws} throws in all")


def is_row(thing):
    """Tell whether the thing is a tuple of a sum and how often it comes."""
    if not isinstance(thing, tuple) or len(thing) != 2:
        return False
    total, often = thing
    if not is_number(total) or not is_number(often):
        return False
    return 0 <= total <= GREATEST_SUM and often >= 1


def with_a_face_more(begun, many, more):
    """Return all ways to go on with the begun pairs by one face, each with the sums that are left.

    The least sum that is left comes by the next face of the one die and the least face of the
    other one: any other sum with a face that is yet missing is as great or greater.
    """
    further = {}
    for (first, second), left in begun.items():
        total = min(left)
        if len(first) < many:
            face = total - second[0]
            rest = without(left, [face + against for against in second])
            if rest is not None:
                further[(first + (face,), second)] = rest
        if len(second) < more:
            face = total - first[0]
            rest = without(left, [face + against for against in first])
            if rest is not None:
                further[(first, second + (face,))] = rest
    return further


def without(left, totals):
    """Return the sums that are left when each of the given ones is taken once more, or None."""
    rest = dict(left)
    for total in totals:
        often = rest.get(total, 0)
        if often == 0:
            return None
        if often == 1:
            del rest[total]
        else:
            rest[total] = often - 1
    return rest
