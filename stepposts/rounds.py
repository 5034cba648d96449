"""After how many turns words come to be others, or the same again.

Numbers that leave one remainder are told as a tuple (rest, step): rest, from 0 on and
below step, and all that are some steps more. None stands for no number.
"""

from math import gcd

from stepposts.words import downward, turned


def meetings(tree, words, others):
    """Give of each post behind which of its turns the words of its branch are the other ones."""
    found = {}
    for post in reversed(downward(tree)):
        below = {one: found[one] for one in tree.below(post)}
        found[post] = _meeting(words[post], others[post], below)
    return found


def _meeting(word, other, below):
    """Give it of one post, where it is known of those right below, each by its own turns.

    The word of a post with none below is empty, so it is the same again at each turn.
    """
    step = _least_round(word)
    # Each letter that goes to the end is a turn of the post that it names.
    shifts = [turns for turns in range(step) if turned(word, turns) == other]
    if not shifts:
        return None
    ahead = word[:shifts[0]]
    rounds = (0, 1)
    for post, met in below.items():
        if rounds is not None and met is not None:
            rest, own_step = met
            solved = _solved(word[:step].count(post), rest - ahead.count(post), own_step)
            rounds = _both(rounds, solved)
        else:
            rounds = None
    if rounds is None:
        return None
    return shifts[0] + step * rounds[0], step * rounds[1]


def _least_round(word):
    """Give the least number of turns, from 1 on, behind which a word is the same again."""
    turns = 1
    while turned(word, turns) != word:
        turns += 1
    return turns


def _solved(factor, rest, step):
    """Give the numbers that, taken factor times, leave the rest by the step."""
    shared = gcd(factor, step)
    if rest % shared != 0:
        return None
    step = step // shared
    return rest // shared * _inverse(factor // shared, step) % step, step


def _both(one, other):
    """Give the numbers that are among these and among those."""
    if other is None:
        return None
    steps = _solved(one[1], other[0] - one[0], other[1])
    if steps is None:
        return None
    return one[0] + one[1] * steps[0], one[1] * steps[1]


def _inverse(number, step):
    """Give the number that, times this one, leaves 1 by the step; they share no divisor."""
    ahead, left = step, number % step
    before, factor = 0, 1
    while left != 0:
        whole = ahead // left
        ahead, left = left, ahead - whole * left
        before, factor = factor, before - whole * factor
    return before % step
