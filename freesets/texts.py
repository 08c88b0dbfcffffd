"""Rules of the four sorts as texts, and the rules that texts write."""

from freesets.errors import BadRule, BadText
from freesets.rules import Bits, Kinds, Posts, Threads

FIGURES = "0123456789"
# The highest row has so many; and Python reads no number of very many figures.
MOST_FIGURES = 10


def written(rule):
    if isinstance(rule, Threads):
        return row_of(["threads", str(rule.places)], [f"{near}-{far}" for near, far in rule.ties])
    if isinstance(rule, Kinds):
        return row_of(["kinds"] + strings_of(rule.most), strings_of(rule.kinds))
    if isinstance(rule, Posts):
        return row_of(["posts"], [",".join(strings_of(posts)) if posts else "-" for posts in rule.wants])
    if isinstance(rule, Bits):
        return row_of(["bits"], strings_of(rule.rows))
    raise BadRule("only a rule of one of the four sorts is written")


def read(text):
    if not isinstance(text, str):
        raise BadText("a rule is read from a text")
    head, colon, body = text.partition(":")
    if colon == "":
        raise BadText("a colon stands behind the head")
    if body != "" and not body.startswith(" "):
        raise BadText("a blank stands ahead of each thing")
    words = head.split(" ")
    try:
        return made_of(words[0], words[1:], body.split(" ")[1:])
    except BadRule:
        raise BadText("what is written makes no rule") from None


def made_of(name, more, things):
    if name == "threads" and len(more) == 1:
        return Threads(number_of(more[0]), [tie_of(word) for word in things])
    if name == "kinds":
        return Kinds(numbers_of(things), numbers_of(more))
    if name == "posts" and more == []:
        return Posts([posts_of(word) for word in things])
    if name == "bits" and more == []:
        return Bits(numbers_of(things))
    raise BadText("there is no such head")


def row_of(head, things):
    return " ".join(head) + ":" + "".join([" " + word for word in things])


def strings_of(numbers):
    return [str(number) for number in numbers]


def tie_of(word):
    return tuple(numbers_of(word.split("-")))


def posts_of(word):
    return [] if word == "-" else numbers_of(word.split(","))


def numbers_of(words):
    return [number_of(word) for word in words]


def number_of(word):
    if word == "" or len(word) > MOST_FIGURES or not all([figure in FIGURES for figure in word]):
        raise BadText("a number is written in figures")
    if word.startswith("0") and word != "0":
        raise BadText("a number has no needless nought")
    return int(word)
