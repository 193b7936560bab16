"""Lentgate: many houses behind one gate, and numbers lent for their letters."""
