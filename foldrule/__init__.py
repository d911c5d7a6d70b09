"""Foldrule: a carpenter's rule folded flat into a case."""
