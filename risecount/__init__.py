"""Risecount: numbers on orders that only rise."""
