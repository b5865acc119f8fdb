"""Noroadback: turners of words, and webs led into themselves on which no road turns back."""
