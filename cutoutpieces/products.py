"""Products: body and cut side by side, and the words that part them."""

from cutoutpieces.grounds import Ground
from cutoutpieces.holders import Holders
from cutoutpieces.leads import Leads
from cutoutpieces.searches import is_like, path_of
from cutoutpieces.trails import Trail
from cutoutpieces.worlds import World


def ground_of(body, stretches):
    """What is walked in a body with calls at these stretches."""
    return Ground(body.given, Leads(body.layout(), stretches))


def ground_of_cut(cut):
    """What is walked in the body of a cut."""
    return ground_of(cut.body, [stretch for _, stretch, _ in cut.calls()])


def world_of(cut, name, ground):
    """What is searched for one name of a cut."""
    return World(Trail(ground, name), [(plan[name], plan.told) for _, _, plan in cut.calls()])


def differing(cut, *, most=20000):
    """The ascending list of the names for which something unlike can be come to."""
    # Only names of the pieces can come to differ.
    ground = ground_of_cut(cut)
    return [name for name in cut.called_names() if not is_like(world_of(cut, name, ground), most)]


def is_same(cut, *, most=20000):
    """Whether body and cut are the same."""
    ground = ground_of_cut(cut)
    for name in cut.called_names():
        if not is_like(world_of(cut, name, ground), most):
            return False
    return True


def parting(cut, *, most=20000):
    """A shortest list of words with which body and cut do not show the same, None if they are the same."""
    ground = ground_of_cut(cut)
    paths = [path_of(world_of(cut, name, ground), most) for name in cut.called_names()]
    parted = [path for path in paths if path is not None]
    return words_of(ground, min(parted, key=len)) if parted else None


def words_of(ground, path):
    """The list of the words of a path from the begin to something unlike."""
    holders = Holders()
    words = []
    for state, (word, what, how) in path[:-1]:
        if word != "word":
            words.append(holders.word(word, what, how))
        elif state is None:
            holders.follow(ground.acts_at_begin(), how)
        else:
            words.append(what)
            holders.follow(ground.acts_behind(state[0], state[1], what), how)
    return [*words, *last_words(holders, path[-1])]


def last_words(holders, last):
    """The list of the word behind which something unlike comes, [] if it comes at the begin."""
    state, (word, what, how) = last
    if state is None:
        return []
    return [what] if word == "word" else [holders.word(word, what, how)]
