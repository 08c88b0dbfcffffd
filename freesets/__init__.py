"""Freesets: what may stand together, and what changes places with what."""
