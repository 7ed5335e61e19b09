"""Foldletter: one letter from all sides."""
