"""The whole computer."""
