"""Huedties: ties of a web given hues so that ties that meet differ."""
