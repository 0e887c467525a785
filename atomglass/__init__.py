"""Atomglass: patterns over texts."""
