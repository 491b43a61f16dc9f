"""Roundsteps: places on a ring, come to by told steps."""
