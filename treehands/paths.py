"""The trees by the paths of a set (points 20 and 21)."""

from treehands.growing import choices, grown, least_reader
from treehands.sets import same


def below(reader, met, moods, sign):
    """To what the kids of a part of this sign may come that comes to one of these moods.

    Told is a list: for each kid the rising tuple of its moods in all such parts. None
    where there is no such part.
    """
    kids = reader.book().kids(sign)
    ways = [way for way in choices(met, kids) if reader.lead(sign, way) in moods]
    if not ways:
        return None
    return [tuple(sorted({moods_of_kids[kid] for moods_of_kids in ways})) for kid in range(kids)]


def steps_down(reader):
    """How the paths of the set go on, from the tops of the liked trees down.

    Wherever a path has gone, the part that stands there may come to some moods alone.
    Each such tuple of moods has a number, that of the tops has 0. Told is a dict: for
    a tuple of a number and a sign by which some path goes on there, the list of the
    kids' numbers.
    """
    met = grown(reader.book(), reader.lead, False).found
    liked = reader.liked()
    found = [tuple(sorted([mood for mood in met if mood in liked]))]
    numbers = {found[0]: 0}
    steps = {}
    done = 0
    while done < len(found):
        for sign in range(reader.book().many()):
            kids = below(reader, met, found[done], sign)
            if kids is not None:
                for moods in kids:
                    if moods not in numbers:
                        numbers[moods] = len(found)
                        found.append(moods)
                steps[(done, sign)] = [numbers[kid] for kid in kids]
        done += 1
    return steps


def shut(reader):
    """The least reader of all trees each of whose paths is one of some liked tree."""
    steps = steps_down(reader)

    def is_step(step, sign, kids):
        return step[1] == sign and all([number in kid for number, kid in zip(steps[step], kids)])

    # A state is the tuple of the numbers from which all paths of the tree may go down to its leaves.
    return least_reader(reader.book(),
                        lambda sign, kids: tuple([step[0] for step in steps if is_step(step, sign, kids)]),
                        lambda state: 0 in state)


def beside(reader):
    """The first tree that the shut set has and the reader does not like, or None."""
    # All trees of the set are in its shut set, so what parts the two is in the shut one.
    paper = same(shut(reader), reader)
    return paper[1] if paper[0] == "unlike" else None
