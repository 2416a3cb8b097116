"""Nearpool: great numbers laid near their rows."""
