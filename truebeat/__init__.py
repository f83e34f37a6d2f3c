"""A processor from gates that is its plain machine, beat by beat."""
