"""Ownhues: each place of a web with a list of hues of its own."""
