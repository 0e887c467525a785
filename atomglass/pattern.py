"""Patterns: trees without a fault, each with its code."""

from atomglass.codes import code_of
from atomglass.faults import check_tree
from atomglass.trees import group_names


class Pattern:
    """A tree without a fault; Bad where it has one."""

    def __init__(self, tree):
        check_tree(tree)
        self.tree = tree
        self.groups = len(group_names(tree))
        self.rows = code_of(tree)

    def code(self):
        """The rows of the tree's code, in a new list."""
        return list(self.rows)

    def names(self):
        """The names of the groups from number 1 on, "" for those without, in a new list."""
        return group_names(self.tree)
