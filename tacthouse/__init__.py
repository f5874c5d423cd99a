"""Tacthouse: voices by clocks, written short."""
