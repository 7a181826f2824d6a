"""Sums of squares and products of machine words, at every width."""
