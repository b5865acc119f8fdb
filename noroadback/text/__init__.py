"""Texts of words, turners, webs and stands."""
