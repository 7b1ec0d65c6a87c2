"""Forced wins in small duels."""
