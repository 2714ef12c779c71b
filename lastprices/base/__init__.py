"""What all else is built on: words and machines."""
