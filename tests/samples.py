"""Rules of every sort over the grounds, for the tests that ask the same of all sorts."""

from functools import cache

from freesets.made import Beside, Cut, Held, Joined, Kept, Turned
from freesets.rules import Bits, Kinds, Posts, Threads
from tests import grounds, words, words_made


def small_rules():
    """Some small rules of each sort: the sparse choice keeps the tests short."""
    found = [Threads(places, ties) for places, ties in grounds.threads_small()[::9]]
    found.extend(Threads(places, ties) for places, ties in grounds.threads_small()[-27:])
    found.extend(Kinds(kinds, most) for kinds, most in grounds.kinds_small()[::5])
    found.extend(Kinds(kinds, most) for kinds, most in grounds.kinds_small()[-3:])
    found.extend(Posts(wants) for wants in grounds.posts_small()[::7])
    found.extend(Posts(wants) for wants in grounds.posts_small()[-10:])
    found.extend(Bits(rows) for rows in grounds.bits_small()[::7])
    found.extend(Bits(rows) for rows in grounds.bits_small()[-11:])
    return found


def great_rules():
    return [
        Threads(*grounds.threads_great()),
        Kinds(*grounds.kinds_great()),
        Posts(grounds.posts_great()),
        Bits(grounds.bits_great()),
    ]


@cache
def great_tables():
    """The rules over 16 things, and tables of what is free, which take long to fill."""
    return [(rule, words.free_table(rule)) for rule in great_rules()]


def few_rules():
    """A few small rules of each sort, of 0 to 5 things, for the tests that ask much of each."""
    return [
        Threads(1, []), Threads(1, [(0, 0)]), Threads(2, [(0, 1), (1, 0)]), Threads(3, [(0, 1), (1, 2), (2, 0)]),
        Threads(4, [(0, 1), (1, 2), (2, 0), (3, 2)]), Threads(3, [(0, 1), (0, 1), (1, 2), (2, 0), (1, 1)]),
        Kinds([], [2]), Kinds([0], [0]), Kinds([0, 1], [1, 0]), Kinds([0, 0, 1], [1, 16]),
        Kinds([1, 0, 0, 1], [1, 1]), Kinds([0, 0, 0, 0, 0], [2]), Kinds([0, 1, 0, 1, 2], [1, 2, 0]),
        Posts([]), Posts([[4]]), Posts([[], [0, 30]]), Posts([[0, 1], [1], [0]]),
        Posts([[0], [0, 1], [1], [2, 1]]), Posts([[7, 3], [3], [7], [], [3, 7, 9]]),
        Bits([]), Bits([9]), Bits([5, 5]), Bits([1, 2, 3]), Bits([6, 5, 3, 1 << 31]), Bits([1, 3, 7, 4, 0]),
    ]


def of_size(rules, many):
    return [rule for rule in rules if rule.many() == many]


def every_way(rule, free):
    """What is made of the rule in each way, and the tables of what is free then."""
    things = list(range(rule.many()))
    found = [
        (Turned(rule), words_made.turned(free)),
        (Cut(rule, 2), words_made.cut(free, 2)),
        (Kept(rule, things[:0:-1]), words_made.kept(free, things[:0:-1])),
        (Held(rule, things[:1]), words_made.held(free, things[:1])),
        (Joined([rule, rule]), words_made.joined([free, free])),
    ]
    if rule.many() < 5:
        one = Kinds([0], [1])
        found.append((Beside(rule, one), words_made.beside(free, words.free_table(one))))
    return found


def random_sort(source, many):
    """A rule of one of the four sorts over a ground of so many things."""
    few = source.randrange(1, 5)
    sort = source.randrange(4)
    if sort == 0:
        return Threads(few + 1, [(source.randrange(few + 1), source.randrange(few + 1)) for thing in range(many)])
    if sort == 1:
        most = [source.randrange(4) for kind in range(few)]
        return Kinds([source.randrange(few) for thing in range(many)], most)
    if sort == 2:
        return Posts([source.sample(range(few), source.randrange(min(few, 3) + 1)) for thing in range(many)])
    return Bits([source.randrange(1 << few) for thing in range(many)])


def random_made(source, many, depth, most):
    """A rule made of rules so deep, over so many things out of grounds of at most so many, and its table."""
    if depth == 0:
        rule = random_sort(source, many)
        return rule, words.free_table(rule)
    way = source.choice(["turned", "cut", "kept", "held", "beside", "joined", "joined"])
    if way == "turned":
        rule, free = random_made(source, many, depth - 1, most)
        return Turned(rule), words_made.turned(free)
    if way == "cut":
        rule, free = random_made(source, many, depth - 1, most)
        bound = source.choice([0, 1, 2, 3, 16])
        return Cut(rule, bound), words_made.cut(free, bound)
    if way == "kept" or way == "held":
        greater = source.randrange(many, most + 1)
        rule, free = random_made(source, greater, depth - 1, most)
        if way == "kept":
            some = source.sample(range(greater), many)
            return Kept(rule, some), words_made.kept(free, some)
        some = source.sample(range(greater), greater - many)
        return Held(rule, some), words_made.held(free, some)
    if way == "beside":
        first = source.randrange(many + 1)
        one, near = random_made(source, first, depth - 1, most)
        other, far = random_made(source, many - first, depth - 1, most)
        return Beside(one, other), words_made.beside(near, far)
    pairs = [random_made(source, many, depth - 1, most) for turn in range(source.randrange(1, 4))]
    return Joined([rule for rule, free in pairs]), words_made.joined([free for rule, free in pairs])
