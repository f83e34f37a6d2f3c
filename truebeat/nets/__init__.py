"""Nets of gates, and walks through them."""
