"""A board that runs a computer, and its log."""
