"""Judges of nets: tables of decisions, likeness, lesser nets, machines of states, wakings."""
