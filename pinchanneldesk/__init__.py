"""Wires between two rows of pins, in one plane."""
