"""Boxclose: boxes that two hands close by drawing sides in turn."""
