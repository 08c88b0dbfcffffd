"""Point 14: rules as texts, sign by sign, and what is read from texts."""

import re
import unittest
from random import Random

from freesets.errors import BadRule, BadText
from freesets.made import Beside, Cut, Held, Joined, Kept, Turned
from freesets.rules import Bits, Kinds, Posts, Rule, Threads
from freesets.texts import read, written
from tests import grounds, samples, words
from tests.checking import WrongChecks

PAIRS = [
    (Threads(1, []), "threads 1:"),
    (Threads(20, []), "threads 20:"),
    (Threads(1, [(0, 0)]), "threads 1: 0-0"),
    (Threads(20, [(19, 0)]), "threads 20: 19-0"),
    (Threads(10, [(9, 9), (0, 9), (9, 0)]), "threads 10: 9-9 0-9 9-0"),
    (Threads(4, [(0, 1), (2, 1), (0, 1), (3, 3)]), "threads 4: 0-1 2-1 0-1 3-3"),
    (Threads(2, [(1, 0)] * 16), "threads 2:" + " 1-0" * 16),
    (Kinds([], []), "kinds:"),
    (Kinds([], [0]), "kinds 0:"),
    (Kinds([], [16, 0, 3]), "kinds 16 0 3:"),
    (Kinds([0], [1]), "kinds 1: 0"),
    (Kinds([2, 0, 2], [10, 1, 16]), "kinds 10 1 16: 2 0 2"),
    (Kinds([0] * 16, [16]), "kinds 16:" + " 0" * 16),
    (Kinds([11, 10], [1] * 12), "kinds 1 1 1 1 1 1 1 1 1 1 1 1: 11 10"),
    (Kinds([299], [2] * 300), "kinds" + " 2" * 300 + ": 299"),
    (Posts([]), "posts:"),
    (Posts([[]]), "posts: -"),
    (Posts([[0]]), "posts: 0"),
    (Posts([[30, 0, 7], [], [10]]), "posts: 30,0,7 - 10"),
    (Posts([[0, 7, 30], [], [10]]), "posts: 0,7,30 - 10"),
    (Posts([[]] * 16), "posts:" + " -" * 16),
    (Posts([list(range(30, -1, -1))]), "posts: " + ",".join(str(post) for post in range(30, -1, -1))),
    (Bits([]), "bits:"),
    (Bits([0]), "bits: 0"),
    (Bits([4294967295, 10, 0, 4294967295]), "bits: 4294967295 10 0 4294967295"),
    (Bits([1] * 16), "bits:" + " 1" * 16),
]


NUMBER = "(?:0|[1-9][0-9]*)"
HEADS = {
    "threads": (f"threads {NUMBER}", f"{NUMBER}-{NUMBER}"), "kinds": (f"kinds(?: {NUMBER})*", NUMBER),
    "posts": ("posts", f"(?:-|{NUMBER}(?:,{NUMBER})*)"), "bits": ("bits", NUMBER),
}


def is_text(text):
    """Whether a text is written as point 14 says, with numbers that points 1 to 5 allow."""
    for name, (head, thing) in HEADS.items():
        if re.fullmatch(f"{head}:(?: {thing})*", text):
            ahead, behind = text.split(":")
            more = [int(word) for word in ahead.split()[1:]]
            things = [[int(figures) for figures in re.findall(NUMBER, word)] for word in behind.split()]
            return len(things) <= 16 and are_allowed(name, more, things)
    return False


def are_allowed(name, more, things):
    numbers = [number for thing in things for number in thing]
    if name == "threads":
        return 1 <= more[0] <= 20 and all(number < more[0] for number in numbers)
    if name == "kinds":
        return all(number <= 16 for number in more) and all(number < len(more) for number in numbers)
    if name == "posts":
        return all(number <= 30 for number in numbers) and all(len(set(thing)) == len(thing) for thing in things)
    return all(number < 1 << 32 for number in numbers)


def parts_of(rule):
    """What a rule of the four sorts is made of."""
    return type(rule), vars(rule)


class WrittenTest(unittest.TestCase):
    def test_sign_by_sign(self):
        for rule, text in PAIRS:
            self.assertEqual(written(rule), text)
            self.assertIs(type(written(rule)), str)

    def test_a_rule_made_of_rules_is_not_written(self):
        rule = Bits([1, 2])
        for made in (Turned(rule), Cut(rule, 1), Kept(rule, [0, 1]), Held(rule, []), Beside(rule, rule),
                     Joined([rule]), Turned(Turned(rule)), Cut(Kept(Kinds([], []), []), 0)):
            with self.assertRaises(BadRule) as caught:
                written(made)
            self.assertIs(type(caught.exception), BadRule)
        self.assertEqual(written(rule), "bits: 1 2")


class ReadTest(unittest.TestCase):
    def check_read(self, rule, text):
        told = read(text)
        self.assertIsInstance(told, Rule)
        self.assertIsNot(told, rule)
        self.assertEqual(parts_of(told), parts_of(rule))
        self.assertEqual(written(told), text)
        self.assertEqual(told.many(), rule.many())
        if rule.many() < 8:
            self.assertEqual(words.free_table(told), words.free_table(rule))

    def test_what_is_written(self):
        for rule, text in PAIRS:
            with self.subTest(text=text):
                self.check_read(rule, text)

    def test_small_grounds(self):
        for rule in samples.small_rules() + samples.few_rules():
            self.check_read(rule, written(rule))

    def test_great_grounds(self):
        source = Random(51)
        for rule in samples.great_rules():
            told = read(written(rule))
            self.check_read(rule, written(rule))
            for turn in range(300):
                some = source.sample(range(16), source.randrange(17))
                self.assertIs(told.free(some), rule.free(some))

    def test_each_place_post_kind_and_number(self):
        for places in range(1, 21):
            for place in range(places):
                self.check_read(Threads(places, [(place, 0)]), f"threads {places}: {place}-0")
                self.check_read(Threads(places, [(0, place)]), f"threads {places}: 0-{place}")
        for may in range(17):
            self.check_read(Kinds([may], [may] * 17), "kinds" + f" {may}" * 17 + f": {may}")
        for post in range(31):
            self.check_read(Posts([[post]]), f"posts: {post}")
        for bit in range(32):
            self.check_read(Bits([1 << bit]), f"bits: {1 << bit}")

    def test_all_small_wants(self):
        for wants in grounds.posts_small():
            text = "posts:" + "".join(" " + (",".join(str(post) for post in posts) or "-") for posts in wants)
            self.check_read(Posts(wants), text)

    def test_a_new_rule_each_time(self):
        for rule, text in PAIRS:
            self.assertIsNot(read(text), read(text))


class BadTextTest(WrongChecks):
    def bad(self, *texts):
        for text in texts:
            self.refuses(BadText, read, text)

    def test_no_text(self):
        self.bad(None, True, False, 0, 14, 1.5, b"bits:", b"", [], ["bits:"], ("bits:",), {}, {"bits:": 1}, {"bits:"},
                 object(), Bits([1]), Turned(Bits([1])), str, read, iter("bits:"), bytearray(b"bits:"))

    def test_an_empty_text(self):
        self.bad("", " ", "  ", "\n", "\t", "\0")

    def test_an_unknown_head(self):
        self.bad(":", " :", ": 1", "bit: 1", "row: 1", "turned: 1", "postsx:", "xposts:", "thread 3: 0-1", "kind 1: 0",
                 "1:", "-:", "bits,posts:", "b i t s: 1", "joined: 1")

    def test_a_head_in_capitals(self):
        self.bad("Threads 2: 0-1", "THREADS 2: 0-1", "Kinds 1: 0", "KINDS 1: 0", "Posts: 1", "POSTS: -", "Bits: 1",
                 "BITS:", "bitS: 1")

    def test_a_head_with_a_word_too_few(self):
        self.bad("threads:", "threads: 0-0", "threads :", "threads : 0-0", " 3: 0-1", "3: 0-1")

    def test_a_head_with_a_word_too_many(self):
        self.bad("threads 3 3: 0-1", "threads 3 3:", "posts 1: 1", "posts 0:", "posts posts: 1", "bits 32: 1", "bits 0:",
                 "bits bits:", "kinds kinds 1: 0", "kinds x: 0", "kinds 1 x:", "threads x:", "threads 3 x:", "the posts:")

    def test_no_colon(self):
        self.bad("threads 3", "threads 3 0-1", "kinds", "kinds 1 0", "posts", "posts -", "bits", "bits 1", "bits; 1")

    def test_two_colons(self):
        self.bad("threads 3:: 0-1", "threads 3: 0-1:", "threads 3: : 0-1", "kinds:: ", "kinds 1: 0: 0", "posts::",
                 "posts: -:", "bits: 1 :", "bits:1:", "bits: :", "::", "bits:: 1")

    def test_a_blank_ahead_of_the_colon(self):
        self.bad("threads 3 :", "threads 3 : 0-1", "kinds :", "kinds 1 : 0", "posts :", "posts : -", "bits :", "bits : 1")

    def test_no_blank_behind_the_colon(self):
        self.bad("threads 3:0-1", "kinds 1:0", "posts:-", "posts:1", "bits:1", "bits:1 2", "threads 3:0-1 1-2")

    def test_two_blanks(self):
        self.bad("threads 3:  0-1", "threads 3: 0-1  1-2", "threads  3: 0-1", "kinds  1: 0", "kinds 1  1: 0",
                 "kinds 1:  0", "kinds 1: 0  0", "posts:  -", "posts: -  -", "bits:  1", "bits: 1  1")

    def test_a_blank_at_the_head(self):
        self.bad(" threads 3: 0-1", " kinds 1: 0", " posts: -", " bits: 1", " bits:")

    def test_a_blank_at_the_end(self):
        self.bad("threads 3: ", "threads 3: 0-1 ", "kinds: ", "kinds 1: 0 ", "posts: ", "posts: - ", "posts: 1 ",
                 "bits: ", "bits: 1 ", "bits: 1  ")

    def test_a_line_break_at_the_end(self):
        for text in ("threads 3:", "threads 3: 0-1", "kinds:", "kinds 1: 0", "posts:", "posts: -", "posts: 1,2",
                     "bits:", "bits: 1"):
            for end in ("\n", "\r", "\r\n", "\t", "\0", "\v", "\f", "\x1c", "\x85", "\u2028", "\u00a0", "\ufeff"):
                self.bad(text + end, end + text)

    def test_a_line_break_within(self):
        for blank in ("\n", "\r", "\t", "\v", "\f", "\0", "\u00a0", "\u2003", "\u3000", " \n", "\n "):
            self.bad(f"threads{blank}3: 0-1", f"threads 3:{blank}0-1", f"threads 3: 0-1{blank}1-2",
                     f"kinds{blank}1: 0", f"kinds 1{blank}1: 0", f"kinds 1: 0{blank}0", f"posts:{blank}-",
                     f"posts: 1,{blank}2", f"bits:{blank}1", f"bits: 1{blank}1", f"bits: 1\nbits:{blank}1")

    def test_a_needless_nought(self):
        self.bad("threads 03: 0-1", "threads 3: 00-1", "threads 3: 0-01", "threads 3: 0-00", "kinds 01: 0",
                 "kinds 1: 00", "kinds 1 00: 0", "posts: 01", "posts: 1,02", "posts: 00", "bits: 01", "bits: 00",
                 "bits: 0000000000", "bits: 04294967295")

    def test_a_sign_ahead_of_a_number(self):
        self.bad("threads +3: 0-1", "threads -3:", "threads 3: +0-1", "threads 3: 0-+1", "threads 3: -0-1",
                 "threads 3: 0--1", "kinds +1: 0", "kinds -1:", "kinds 1: -0", "kinds 1: +0", "posts: +1", "posts: -1",
                 "posts: 1,-2", "posts: 1,+2", "bits: +1", "bits: -1", "bits: -0")

    def test_a_number_with_a_point(self):
        self.bad("threads 3.0: 0-1", "threads 3: 0.0-1", "kinds 1.: 0", "kinds 1: 0.0", "posts: 1.0", "posts: .1",
                 "bits: 1.0", "bits: 1e3", "bits: 0x1", "bits: 0b1", "bits: 1.", "bits: 1L", "bits: 1/1")

    def test_figures_that_are_none_of_those_from_0_to_9(self):
        for figure in ("\u0661", "\u0967", "\uff11", "\u00b9", "\u2460", "\u00bd", "\u4e00", "\U0001d7cf", "\u2160"):
            self.bad(f"threads {figure}: 0-0", f"threads 2: {figure}-0", f"threads 2: 0-{figure}", f"kinds {figure}: 0",
                     f"kinds 1 1: {figure}", f"posts: {figure}", f"posts: 2,{figure}", f"bits: {figure}",
                     f"bits: 1{figure}", f"bits: {figure}1")

    def test_underscores_in_a_number(self):
        self.bad("threads 1_0: 0-1", "threads 20: 1_0-1", "kinds 1_0: 0", "kinds" + " 1" * 12 + ": 1_0", "posts: 1_0",
                 "bits: 1_0", "bits: 1_000", "bits: _1", "bits: 1_")

    def test_a_very_long_number(self):
        for long in ("9" * 5000, "1" + "0" * 100000, "0" * 5000, "0" * 4999 + "1", "42949672950"):
            self.bad(f"threads {long}:", f"threads 3: {long}-0", f"threads 3: 0-{long}", f"kinds {long}:",
                     f"kinds 1: {long}", f"posts: {long}", f"posts: 1,{long}", f"bits: {long}")

    def test_ties(self):
        self.bad("threads 3: 0", "threads 3: 0-1-2", "threads 3: -", "threads 3: 0-", "threads 3: -0", "threads 3: 0,1",
                 "threads 3: 0-1,1-2", "threads 3: (0, 1)", "threads 3: 0 - 1", "threads 3: 0-1 2", "threads 3: 0-1-",
                 "threads 3: a-b", "threads 3: 0_1", "threads 3: 0\u20131", "threads 3: 0\u22121", "threads 3: 01")

    def test_a_place_beyond(self):
        self.bad("threads 3: 0-3", "threads 3: 3-0", "threads 3: 0-1 1-2 2-3", "threads 1: 0-1", "threads 20: 20-0",
                 "threads 20: 0-20")

    def test_how_many_places(self):
        self.bad("threads 0:", "threads 0: 0-0", "threads 21:", "threads 21: 0-1", "threads 100:", "threads 30: 0-1")

    def test_a_kind_beyond(self):
        self.bad("kinds: 0", "kinds 1: 1", "kinds 1 1: 2", "kinds 1 1: 0 1 2", "kinds 5: 5", "kinds 1: 0 10")

    def test_a_count_of_a_kind_beyond(self):
        self.bad("kinds 17:", "kinds 17: 0", "kinds 1 17: 0", "kinds 20 1: 0", "kinds 100:")

    def test_how_kinds_are_written(self):
        self.bad("kinds 1,1: 0", "kinds 1: 0,0", "kinds 1: -", "kinds -: 0", "kinds 1: 0-0", "kinds 1: a", "kinds [1]: 0")

    def test_a_post_beyond(self):
        self.bad("posts: 31", "posts: 0,31", "posts: 31,0", "posts: - 31", "posts: 100")

    def test_the_same_post_twice(self):
        self.bad("posts: 1,1", "posts: 0,0", "posts: 1,2,1", "posts: - 30,30")

    def test_a_comma_too_many(self):
        self.bad("posts: ,1", "posts: 1,", "posts: 1,,2", "posts: ,", "posts: ,,", "posts: 1,2,", "posts: , -",
                 "posts: -,", "posts: ,-", "posts: 1, 2", "posts: 1 ,2")

    def test_none_together_with_a_number(self):
        self.bad("posts: -,1", "posts: 1,-", "posts: -1", "posts: 1-", "posts: --", "posts: -,-", "posts: 1-2",
                 "posts: 1,-,2")

    def test_how_wants_are_written(self):
        self.bad("posts: 1;2", "posts: [1]", "posts: 1,a", "posts: []", "posts: none", "posts: ''", "posts: \u2013")

    def test_a_row_beyond(self):
        self.bad("bits: 4294967296", "bits: 1 4294967296", "bits: 9999999999", "bits: 10000000000")

    def test_how_rows_are_written(self):
        self.bad("bits: -", "bits: 1,2", "bits: 1-2", "bits: a", "bits: 1a", "bits: a1", "bits: 0xff")

    def test_seventeen_things(self):
        for count in (17, 18, 1000):
            self.bad("threads 2:" + " 0-1" * count, "kinds 1:" + " 0" * count, "posts:" + " -" * count,
                     "posts:" + " 1,2" * count, "bits:" + " 1" * count)

    def test_every_text_that_is_near_to_one(self):
        """Each sign of a short text taken out, put in or changed: read is just what the words of point 14 allow."""
        counts = {True: 0, False: 0}
        for rule, text in PAIRS:
            if len(text) < 40:
                for near in near_texts(text):
                    counts[is_text(near)] += 1
                    self.check_near(near)
        self.assertGreater(counts[True], 200)
        self.assertGreater(counts[False], 2000)

    def check_near(self, text):
        if is_text(text):
            self.assertEqual(written(read(text)), text)
        else:
            with self.assertRaises(BadText, msg=text):
                read(text)

    def test_asked_again(self):
        for turn in range(2):
            self.bad("bits: 01", "posts: 1,1")
            self.assertEqual(written(read("bits: 1")), "bits: 1")
            self.assertEqual(written(read("posts: 1,2")), "posts: 1,2")


def near_texts(text):
    signs = " :-,019abx\n\t+_.\u0661"
    found = []
    for place in range(len(text) + 1):
        found.append(text[:place] + text[place + 1:])
        for sign in signs:
            found.append(text[:place] + sign + text[place:])
            found.append(text[:place] + sign + text[place + 1:])
    return found
