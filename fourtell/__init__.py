"""Fourtell: a card held back and told by the order of the others."""
