"""Onestroke: books of keys, decided for all pressed rows."""
