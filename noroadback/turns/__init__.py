"""Turners of words, rows of single moves, and sums of words."""
