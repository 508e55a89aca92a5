"""Nets of couriers and boxes, their meetings, and how letters spread in them."""
