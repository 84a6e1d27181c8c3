"""Tollroads: travellers who choose their ways, with exact rests, best routings and certificates."""
