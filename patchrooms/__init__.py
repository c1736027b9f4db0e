"""Patchrooms: rooms of numbers laid over small orders."""
