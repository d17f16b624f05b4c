"""Dunnage: stacks of boards that stand, or come down."""
