"""Foldpress: a house of printed sheets."""
