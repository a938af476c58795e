"""Pairlattice: all pairings that no two would break."""
