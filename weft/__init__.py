"""Weft: programs told in prose."""
