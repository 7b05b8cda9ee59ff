"""Eitherslack: presses and gaps, one of the two nought at each place."""
