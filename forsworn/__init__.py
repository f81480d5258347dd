"""Forsworn: a moot whose old cases turn with the oaths that later ones break."""
