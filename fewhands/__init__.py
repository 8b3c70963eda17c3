"""Fewhands: procedures decided for all staffs."""
