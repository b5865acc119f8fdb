"""Turners of words, rows of single moves, sums of words, and what tells turners from one another."""
