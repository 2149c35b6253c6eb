"""Latewires: rows of timers that are on late and off late, decided for all signals."""
