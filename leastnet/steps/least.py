"""The least net: its runs are exactly the unavoidable words."""

from leastnet.base.integers import check_between
from leastnet.errors import InvalidNet
from leastnet.hulls.faces import faces
from leastnet.nets.nets import Net
from leastnet.seen.behaviours import LONGEST, check_behaviour
from leastnet.seen.respect import is_respected, paper_of_place
from leastnet.steps.mixtures import seen_of


def least_net(behaviour):
    """Return the net of the places of all faces of all actions."""
    check_behaviour(behaviour)
    return net_of_faces(seen_of(behaviour))


def net_of_faces(seen):
    """Return the least net of a behaviour."""
    alphabet = seen.behaviour[0]
    places = []
    for action in alphabet:
        for u, v in bounds_of(seen, action):
            place = seen.barring_place(action, u, v)
            if max(place[1]) > 0:
                places.append(place)
    return Net.of(alphabet, tuple(places))


def bounds_of(seen, action):
    """Return the list of the pairs (u, v) whose places bar all avoidable steps with the action."""
    points = tuple(seen.points_of_action(action))
    if not points:
        return [((0,) * len(seen.behaviour[0]), -1)]
    equations, inequalities = faces(points, tuple(seen.rays))
    bounds = [*equations, *inequalities]
    bounds.extend([(tuple([-number for number in u]), -v) for u, v in equations])
    return bounds


def unavoidable_words(behaviour, *, longest):
    """Yield all unavoidable words of at most so many actions, shorter ones first and then ascending."""
    check_behaviour(behaviour)
    check_between(longest, 0, LONGEST)
    seen = seen_of(behaviour)
    yield ()
    level = [((), (0,) * len(behaviour[0]))]
    for length in range(1, longest + 1):
        further = []
        for word, counts in level:
            for action, behind in seen.steps_from(counts):
                longer = (*word, action)
                yield longer
                # The last level is the longest one by far, and nothing follows it.
                if length < longest:
                    further.append((longer, behind))
        level = further


def count_unavoidable(behaviour, *, longest):
    """Return how many unavoidable words there are of each length from 0 on."""
    check_behaviour(behaviour)
    check_between(longest, 0, LONGEST)
    seen = seen_of(behaviour)
    many = [1]
    level = {(0,) * len(behaviour[0]): 1}
    for _ in range(longest):
        further = {}
        for counts, words in level.items():
            for _, behind in seen.steps_from(counts):
                further[behind] = further.get(behind, 0) + words
        many.append(sum(list(further.values())))
        level = further
    return tuple(many)


def check_both(behaviour, net):
    """Raise the errors of what are not a behaviour and a net with one alphabet."""
    check_behaviour(behaviour)
    if not isinstance(net, Net) or net.alphabet != behaviour[0]:
        raise InvalidNet("not a net with the alphabet of the behaviour")


def net_respects(behaviour, net):
    """Tell whether the net allows all runs of the behaviour."""
    check_both(behaviour, net)
    for place in net.places:
        if not is_respected(behaviour, place):
            return False
    return True


def net_paper(behaviour, net):
    """Return papers that show that the net respects the behaviour, or one of its first place that does not."""
    check_both(behaviour, net)
    papers = []
    for place in net.places:
        paper = paper_of_place(behaviour, place)
        if paper[0] != "respects":
            return "place", place, paper
        papers.append(paper)
    return "respects", tuple(papers)
