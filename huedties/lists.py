"""Hues out of lists, and hues for the ties that have none yet."""

from huedties.search import searched
from huedties.treecheck import lists_of


def from_lists(web, lists):
    return searched(web, lists, False)


def filled(web, hueing, hues):
    return from_lists(web, lists_of(hueing, hues))
