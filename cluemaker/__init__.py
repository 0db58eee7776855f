"""Cluemaker: puzzles on a floor of cells, thought out and made."""
