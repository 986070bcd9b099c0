"""Hissroom: a clean take joined of worn ones, as few copies old as can be."""
