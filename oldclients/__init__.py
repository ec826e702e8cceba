"""Oldclients: the object model of a compiler, and binary compatibility."""
