"""What people know of hidden numbers, on a dial of which nobody told how many marks it has."""
