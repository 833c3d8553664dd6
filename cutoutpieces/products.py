"""Products: body and cut side by side, and the words that part them."""

from cutoutpieces.cells import FIRST
from cutoutpieces.holders import Holders
from cutoutpieces.leads import Leads
from cutoutpieces.pieces import piece_at
from cutoutpieces.searches import is_like, path_to, searched
from cutoutpieces.sides import Side


def leads_of(cut):
    """Where words lead in the body of a cut."""
    return Leads(cut.body.layout(), [stretch for _, stretch, _ in cut.calls()])


class Product:
    """What is searched for one name of a cut."""

    def __init__(self, cut, name, leads):
        self._given = cut.body.given
        self._leads = leads
        self._side = Side(name, cut.body.layout(), [plan for _, _, plan in cut.calls()])

    def firsts(self):
        """The list of the steps to the first wait."""
        return self._side.word_steps(self._leads.begin(self._given), self._given, (), FIRST)

    def steps(self, state):
        """The list of the steps from a state."""
        spot, names, puts, cells = state
        found = self._side.use_steps(state)
        for lead in self._leads.behind(spot, names):
            found.extend(self._side.word_steps(lead, names, puts, cells))
        return found


def called_names(cut):
    """The ascending list of the names of the pieces of a cut; only these can come to differ."""
    pieces = [piece_at(cut.body, stretch) for _, stretch, _ in cut.calls()]
    return sorted(set([name for piece in pieces for name in piece.names()]))


def differing(cut, *, most=20000):
    """The ascending list of the names for which something unlike can be come to."""
    leads = leads_of(cut)
    return [name for name in called_names(cut) if not is_like(Product(cut, name, leads), most)]


def is_same(cut, *, most=20000):
    """Whether body and cut are the same."""
    leads = leads_of(cut)
    for name in called_names(cut):
        if not is_like(Product(cut, name, leads), most):
            return False
    return True


def parting(cut, *, most=20000):
    """A shortest list of words with which body and cut do not show the same, None if they are the same."""
    leads = leads_of(cut)
    paths = []
    for name in called_names(cut):
        found, last = searched(Product(cut, name, leads), most)
        if last is not None:
            paths.append(path_to(found, last))
    return words_of(cut, leads, min(paths, key=len)) if paths else None


def words_of(cut, leads, path):
    """The list of the words of a path from the begin to something unlike."""
    holders = Holders()
    words = []
    for state, (word, what, how) in path[:-1]:
        if word != "word":
            words.append(holders.word(word, what, how))
        elif state is None:
            holders.follow(leads.begin(cut.body.given)[1], how)
        else:
            words.append(what)
            holders.follow(acts_behind(leads, state, what), how)
    return [*words, *last_words(holders, path[-1])]


def acts_behind(leads, state, word):
    """The acts behind a word at a state."""
    return [acts for other, acts, _, _, _ in leads.behind(state[0], state[1]) if other == word][0]


def last_words(holders, last):
    """The list of the word behind which something unlike comes, [] if it comes at the begin."""
    state, (word, what, how) = last
    if state is None:
        return []
    return [what] if word == "word" else [holders.word(word, what, how)]
