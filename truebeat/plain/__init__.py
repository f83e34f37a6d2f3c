"""The plain machine and its shapes."""
