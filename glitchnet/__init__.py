"""Glitchnet: nets whose delays nobody knows."""
