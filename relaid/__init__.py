"""Relaid: a line cut into pieces and laid again."""
