"""Backwalks: walks that look the same backwards, told exactly, in fractions."""
