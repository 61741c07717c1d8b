"""Wordrules: rules for words, the words that keep them, and when a row of tries comes to a word."""
