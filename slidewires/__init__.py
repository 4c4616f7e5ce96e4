"""Slidewires: pictures of boxes and wires."""
