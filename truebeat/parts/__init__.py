"""Adders, shifts, products and long parts."""
