"""Texts of steps, assemblies with labels, and formulas."""
