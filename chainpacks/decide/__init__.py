"""What fits, which lots a store takes, and which lots fool a rule."""
