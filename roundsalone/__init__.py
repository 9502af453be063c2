"""Roundsalone: nets known by their rounds alone."""
