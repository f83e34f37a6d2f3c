"""Sheets of lines of words, and the nets laid from them."""
