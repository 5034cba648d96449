"""The refusals: a class for each kind, none of them under another one."""


class PostError(ValueError):
    """Any refusal."""


class NoTree(PostError):
    """What should be a tree is none."""


class NoPost(PostError):
    """What should be a post of the tree is none."""


class NoStanding(PostError):
    """What should be a standing of the tree is none."""


class NoYear(PostError):
    """What should be a year, or a number of a turn, is none."""


class NoDeeds(PostError):
    """What should be deeds that can be done is none."""


class NoFolk(PostError):
    """What should be a folk is none."""


class NoWords(PostError):
    """What should be the words of a tree's posts is none."""
