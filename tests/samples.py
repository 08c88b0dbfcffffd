"""Rules of every sort over the grounds, for the tests that ask the same of all sorts."""

from freesets.rules import Bits, Kinds, Posts, Threads
from tests import grounds


def small_rules():
    """Some small rules of each sort: the sparse choice keeps the tests short."""
    found = [Threads(places, ties) for places, ties in grounds.threads_small()[::9]]
    found.extend(Threads(places, ties) for places, ties in grounds.threads_small()[-27:])
    found.extend(Kinds(kinds, most) for kinds, most in grounds.kinds_small()[::5])
    found.extend(Kinds(kinds, most) for kinds, most in grounds.kinds_small()[-3:])
    found.extend(Posts(wants) for wants in grounds.posts_small()[::7])
    found.extend(Posts(wants) for wants in grounds.posts_small()[-10:])
    found.extend(Bits(rows) for rows in grounds.bits_small()[::7])
    found.extend(Bits(rows) for rows in grounds.bits_small()[-11:])
    return found


def great_rules():
    return [
        Threads(*grounds.threads_great()),
        Kinds(*grounds.kinds_great()),
        Posts(grounds.posts_great()),
        Bits(grounds.bits_great()),
    ]
