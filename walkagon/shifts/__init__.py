"""How flips rearrange sticks, and the scripts of flips."""
