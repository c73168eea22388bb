"""Ladderworth: worths of players, told from who beat whom."""
