"""The trees by the paths of a set (points 20 and 21)."""

from treehands.growing import choices, grown, least_reader
from treehands.sets import same


def below(reader, met, moods, sign):
    """Where a part may come to these moods alone, a list of what its kids may come to, else None.

    It has for each kid the rising tuple of all moods to which it comes in some such part of this sign.
    """
    kids = reader.book().kids(sign)
    ways = [way for way in choices(met, kids) if reader.lead(sign, way) in moods]
    if not ways:
        return None
    return [tuple(sorted({way[kid] for way in ways})) for kid in range(kids)]


def steps_down(reader):
    """A dict: where the paths of the set may go from the top of a liked tree.

    Its keys are tuples of a number and a sign. The numbers stand for the tuples of
    moods to which the part may come to which a path has gone, 0 for its top. What it
    has is the list of the numbers of the kids, where the path may go on by this sign.
    """
    met = grown(reader.book(), reader.lead, False).found
    liked = reader.liked()
    found = [tuple(sorted([mood for mood in met if mood in liked]))]
    numbers = {found[0]: 0}
    steps = {}
    done = 0
    while done < len(found):
        for sign in range(reader.book().many()):
            kids = below(reader, met, found[done], sign)
            if kids is not None:
                for moods in kids:
                    if moods not in numbers:
                        numbers[moods] = len(found)
                        found.append(moods)
                steps[(done, sign)] = [numbers[moods] for moods in kids]
        done += 1
    return steps


def shut(reader):
    """The least reader of all trees each of whose paths is one of some liked tree."""
    steps = steps_down(reader)

    def is_step(step, sign, kids):
        return step[1] == sign and all([number in kid for number, kid in zip(steps[step], kids)])

    # A state is the tuple of the numbers from which all paths of the tree may go down to its leaves.
    return least_reader(reader.book(),
                        lambda sign, kids: tuple([step[0] for step in steps if is_step(step, sign, kids)]),
                        lambda state: 0 in state)


def beside(reader):
    """The first tree that the shut set has and the reader does not like, or None."""
    # All trees of the set are in its shut set, so what parts the two is in the shut one.
    paper = same(shut(reader), reader)
    return paper[1] if paper[0] == "unlike" else None
