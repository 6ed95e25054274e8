"""Slashwise: sentences read by forms that lean left and right."""
