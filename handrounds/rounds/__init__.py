"""Rounds and the couriers that go round them."""
