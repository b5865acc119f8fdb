"""Integers, fractions, words and rings."""
