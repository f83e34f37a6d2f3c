"""Processors that are the plain machine: the one-beat machine, the pipe, and their nets."""
