"""The least numbers of flips."""
