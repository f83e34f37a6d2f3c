"""Checks of single values, and words of bits."""
