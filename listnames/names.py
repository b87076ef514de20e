"""Names: tuples of labels, the nearest one first."""

from listnames.kinds import LABEL_SIGNS


def is_under(name, top):
    """Whether a name is x + top for some name x."""
    ahead = len(name) - len(top)
    return ahead >= 0 and name[ahead:] == top


def is_beneath(name, top):
    """Whether a name is under another one, and is not that one itself."""
    return len(name) > len(top) and is_under(name, top)


def tops(name):
    """The names that a name is under: itself first, the top last."""
    return [name[at:] for at in range(len(name) + 1)]


def ray_end(name, many):
    """The end of so many labels of a name other than the top, repeated."""
    return tuple([name[(at - many) % len(name)] for at in range(many)])


def root(name):
    """The shortest name of which a name other than the top is a repetition."""
    size = len(name)
    fitting = [many for many in range(1, size + 1) if size % many == 0]
    found = [name[:many] for many in fitting if name[:many] * (size // many) == name]
    return found[0]


def label_behind(label):
    """The label that comes next in the order of Python. No list is long enough to need one behind the last."""
    if len(label) < LABEL_SIGNS:
        return label + "a"
    kept = label.rstrip("z")
    letters = "abcdefghijklmnopqrstuvwxyz"
    return kept[:-1] + letters[letters.index(kept[-1]) + 1]


def label_beyond(taken):
    """The least label that is not in a dict."""
    label = "a"
    while label in taken:
        label = label_behind(label)
    return label


def least_label(names):
    """The least label that is in none of the names of a list."""
    return label_beyond({label: True for name in names for label in name})
