"""The words of an orderly standing's posts, that go round as the posts have turns.

A post's word is the list of those posts right below it in whose branches stand the
folk below it, these by their service. A pattern is the list of all posts by the
service of their holders. Words are kept as a dict from all posts.
"""


def downward(tree):
    """Give all posts, each one behind the one above it."""
    found = [tree.head()]
    at = 0
    # No call within a call: a chain may be longer than calls may be deep.
    while at < len(found):
        found.extend(tree.below(found[at]))
        at += 1
    return found


def way_up(tree, post):
    """Give a post and all above it, up to the head."""
    way = []
    while post is not None:
        way.append(post)
        post = tree.above(post)
    return way


def words_of(tree, pattern):
    words = {post: [] for post in pattern}
    for post in pattern:
        way = way_up(tree, post)
        for letter, above in zip(way, way[1:]):
            words[above].append(letter)
    return words


def pattern_of(tree, words):
    """Give the pattern that has these words."""
    posts = downward(tree)
    ranks_by = {post: [] for post in posts}
    ranks_by[posts[0]] = list(range(len(posts)))
    post_by = {}
    for post in posts:
        # In an orderly standing the longest-serving one of a branch stands at its top.
        first, *others = ranks_by[post]
        post_by[first] = post
        for letter, rank in zip(words[post], others):
            ranks_by[letter].append(rank)
    return [post_by[rank] for rank in range(len(posts))]


def turned(word, turns):
    """Give a word behind so many turns of its post, each of which puts the first letter last."""
    if not word:
        return []
    at = turns % len(word)
    return word[at:] + word[:at]


def turns_of(tree, words, post, years):
    """Give how many turns a post has in so many years behind the one that has these words."""
    turns = years
    # The head has a turn in each year, and each next post on the way down some of those of the one above.
    for below in reversed(way_up(tree, post)[:-1]):
        turns = _turns_below(words[tree.above(below)], turns, below)
    return turns


def turns_by(tree, words, years):
    """Give of all posts how many turns they have in so many years."""
    found = {tree.head(): years}
    for post in downward(tree):
        for below in tree.below(post):
            found[below] = _turns_below(words[post], found[post], below)
    return found


def words_behind(tree, words, years):
    """Give the words so many years behind the year that has these words."""
    turns = turns_by(tree, words, years)
    return {post: turned(words[post], turns[post]) for post in turns}


def years_to_turn(tree, words, post, number):
    """Give how many years behind the one that has these words a post's turn of a number comes."""
    way = way_up(tree, post)
    # A turn of a post is told as one of the post above it, up to the head's, that has one in each year.
    for letter, above in zip(way, way[1:]):
        word = words[above]
        places = [at for at, one in enumerate(word) if one == letter]
        rounds, left = divmod(number - 1, len(places))
        number = rounds * len(word) + places[left] + 1
    return number


def _turns_below(word, turns, below):
    """Give the turns of a post right below, by its letter in the word, in so many of the one above."""
    rounds, letters = divmod(turns, len(word))
    return rounds * word.count(below) + word[:letters].count(below)
