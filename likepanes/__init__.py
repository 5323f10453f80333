"""Likepanes: squares cut into panes that are all alike in shape."""
