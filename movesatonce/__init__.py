"""Movesatonce: boxes' worths led to boxes all at once."""
