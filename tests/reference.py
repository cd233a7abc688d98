"""The definitions of the document, written down as directly as possible, for codes of any length.

Nothing here uses the program, so that the tests compare two independent ways.
"""

import itertools
import random
from functools import lru_cache


def key(letters):
    """A list by which strings of letters are ordered as in point 5."""
    ranks = []
    odd = False
    for letter in letters:
        rank = "LCR".index(letter)
        ranks.append(2 - rank if odd else rank)
        if letter == "R":
            odd = not odd
    return ranks


def compare(first, second):
    one, other = key(first), key(second)
    return (one > other) - (one < other)


def compare_starts(first, second):
    """Compare as far as both go."""
    length = min(len(first), len(second))
    return compare(first[:length], second[:length])


def greater_tail(code):
    whole = key(code)
    for index in range(1, len(code)):
        if key(code[index:]) > whole:
            return index
    return None


def is_admissible(code):
    return greater_tail(code) is None


def all_codes(period):
    return ["".join(letters) + "C" for letters in itertools.product("LR", repeat=period - 1)]


@lru_cache(maxsize=None)
def admissible_of(period):
    """All admissible codes of the period in ascending order, found among all strings."""
    return tuple(sorted([code for code in all_codes(period) if is_admissible(code)], key=key))


@lru_cache(maxsize=None)
def admissible_up_to(period):
    codes = [code for length in range(1, period + 1) for code in admissible_of(length)]
    return tuple(sorted(codes, key=key))


def product(first, second):
    start = first[:-1]
    blocks = []
    for letter in second:
        if letter == "C":
            blocks.append(start + "C")
        elif start.count("R") % 2 == 0:
            blocks.append(start + letter)
        else:
            blocks.append(start + ("R" if letter == "L" else "L"))
    return "".join(blocks)


def product_of(parts):
    whole = "C"
    for part in parts:
        whole = product(whole, part)
    return whole


@lru_cache(maxsize=None)
def primes_of(period):
    """The admissible codes of the period that are not the product of two of period 2 or more."""
    products = {
        product(first, second)
        for size in range(2, period) if period % size == 0
        for first in admissible_of(size)
        for second in admissible_of(period // size)
    }
    return tuple(code for code in admissible_of(period) if period > 1 and code not in products)


def factorings(code):
    """All lists of prime codes whose product is the code."""
    if code == "C":
        return [[]]
    found = []
    for size in range(2, len(code) + 1):
        if len(code) % size != 0:
            continue
        for first in primes_of(size):
            for rest in admissible_of(len(code) // size):
                if product(first, rest) == code:
                    found.extend([[first] + tail for tail in factorings(rest)])
    return found


def least_code(period):
    if period == 1:
        return "C"
    if period == 2:
        return "RC"
    if period % 2 == 1:
        return "RL" + "R" * (period - 3) + "C"
    return product("RC", least_code(period // 2))


def positions(code):
    tails = [code[index:] for index in range(len(code))]
    ascending = sorted(tails, key=key)
    return tuple(ascending.index(tail) for tail in tails)


def permutation(code):
    places = positions(code)
    moves = {}
    for point, place in enumerate(places):
        moves[place] = places[(point + 1) % len(places)]
    return tuple(moves[place] for place in range(len(places)))


def is_hump(moves):
    """Whether a tuple in which each of 0 to n - 1 occurs once is a hump permutation."""
    reached = {0}
    place = moves[0]
    while place not in reached:
        reached.add(place)
        place = moves[place]
    steps = [moves[index + 1] > moves[index] for index in range(len(moves) - 1)]
    return len(reached) == len(moves) and steps == sorted(steps, reverse=True)


def is_between(code, first, second):
    low, high = sorted([first, second], key=key)
    return key(low) < key(code) < key(high)


def shortest_between(first, second):
    """The short way of point 13, without a limit; the codes are different and not neighbours."""
    for length in range(max(len(first), len(second))):
        for code in (first, second):
            start = code[:length] + "C"
            if length < len(code) and is_admissible(start) and is_between(start, first, second):
                return start
    letters = max(first, second, key=len)[:-1]
    while True:
        longer = [letters + letter for letter in "LR" if _may_go_on(letters + letter, first, second)]
        assert len(longer) == 1, (first, second, longer)
        letters = longer[0]
        if is_admissible(letters + "C"):
            return letters + "C"


def _may_go_on(letters, first, second):
    low, high = sorted([first, second], key=key)
    if compare_starts(low, letters) > 0 or compare_starts(letters, high) > 0:
        return False
    return all(compare_starts(letters[index:], letters) <= 0 for index in range(1, len(letters)))


@lru_cache(maxsize=None)
def long_codes(period, number=12):
    """Some admissible codes of the period, always the same ones."""
    source = random.Random(period)
    codes = [least_code(period), "R" + "L" * (period - 2) + "C"]
    while len(codes) < number:
        head = "R" + "L" * (1 + int(source.random() * 6))
        body = "".join("LR"[int(source.random() * 2)] for _ in range(period))
        code = (head + body)[:period - 1] + "C"
        if is_admissible(code):
            codes.append(code)
    return tuple(codes)
