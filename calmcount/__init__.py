"""Calmcount: a counter whose deeds change no more than three figures."""
