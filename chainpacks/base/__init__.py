"""What all other modules rest on: words, checks, sizes and chains."""
