"""Thaumatrope: a video codec whose decoder reproduces the encoder's pictures exactly."""
