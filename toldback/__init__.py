"""Toldback: fractions and quotients told back from what little is left of them."""
